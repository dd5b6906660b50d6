/- The texts StrF, StrG, StrH, StrMath2, BuildB, StrI, StrR, RsMath3, RsMath4, GfCX, RsO, RsP, one behind the other: what the claim wants of them. -/
import Derived.Great.BuildSlice
import Derived.Test.YtnbjaijhdjneoaaGreatP5
namespace Go.Proofs.YtnbjaijhdjneoaaGreat
open Go.RowKit CrcMath GfMath PolyMath RsMath SolMath GeoMath
set_option linter.unusedVariables false
set_option maxRecDepth 100000

theorem own_only {w w' : World} {base g s : Nat} {e : TypeId} {v : Value} {n : Nat} {xs : List Value} (h : w.ownsRow base e s v n xs) (ho : Only g w w') (hg : g < base) : w'.ownsRow base e s v n xs := by
  refine ⟨h.1, ?_⟩
  rcases h.2 with h | ⟨g', cap, cur, h1, h2, h3, h4⟩
  · exact .inl h
  · exact .inr ⟨g', cap, cur, h1, h2, (ho.2.2.2.2 g' (Array.getElem?_eq_some_iff.1 h3).1 (by omega)).trans h3, h4⟩
/-- Texts as lists of bytes. -/
def tl (L : List ByteArray) : List (List UInt8) := L.map fun s => s.data.toList
theorem tl_get (L : List ByteArray) (i : Nat) (h : i < L.length) : (tl L).getD i [] = L[i].data.toList := by simp [tl, List.getD_eq_getElem?_getD, h]
/-- The blocks that the first t sectors hold. -/
def seenT (S : List (List UInt8)) (t : Nat) : Fb := fun i b => if i < t then seenF S i b else 0
theorem seenT_full (S : List (List UInt8)) (n : Nat) : grid n (seenT S n) = grid n (seenF S) := grid_congr fun i hi b _ => if_pos hi
theorem seenT_zero (S : List (List UInt8)) (n : Nat) : bytes (grid n (seenT S 0)) = List.replicate (n * 60) (.int .u8 0) := by
  have : grid n (seenT S 0) = List.replicate (n * 60) 0 := by
    refine List.ext_getElem? fun q => ?_
    by_cases h : q < n * 60
    · rw [grid_get _ _ _ h, List.getElem?_replicate, if_pos h, seenT, if_neg (by omega)]
    · rw [List.getElem?_eq_none (by rw [grid_length]; omega), List.getElem?_eq_none (by simp; omega)]
  rw [this, bytes_rep]; rfl
theorem seenT_now (S : List (List UInt8)) (n i : Nat) (h : i < n) : bytes (grid n (seenT S i)) = bytes (grid i (seenF S)) ++ bytes (List.replicate 60 0) ++ bytes (grid (n - i - 1) fun _ _ => 0) := by
  rw [grid_split _ h, bytes_append, bytes_append, seenT_full]
  congr 2
  · congr 1
    refine List.ext_getElem? fun b => ?_
    by_cases hb : b < 60
    · rw [bkF_get _ _ _ hb, List.getElem?_replicate, if_pos hb, seenT, if_neg (by omega)]
    · rw [List.getElem?_eq_none (by rw [bkF_length]; omega), List.getElem?_eq_none (by simp; omega)]
  · congr 1
    funext j b; show seenT S i (i + 1 + j) b = 0; rw [seenT, if_neg (by omega)]
theorem seenT_next (S : List (List UInt8)) (n i : Nat) (h : i < n) : bytes (grid i (seenF S)) ++ bytes (blk (S.getD i [])) ++ bytes (grid (n - i - 1) fun _ _ => 0) = bytes (grid n (seenT S (i + 1))) := by
  rw [grid_split (seenT S (i + 1)) h, bytes_append, bytes_append, ← bkF_seen]
  congr 2
  · congr 1
    exact grid_congr fun j hj b _ => (if_pos (by omega)).symm
  · congr 1
    exact bkF_eq.2 fun b _ => (if_pos (by omega)).symm
  · congr 1
    funext j b; show 0 = seenT S (i + 1) (i + 1 + j) b; rw [seenT, if_neg (by omega)]

set_option maxHeartbeats 1000000 in
theorem str_open_any (c cc b sb k p s : Nat) (a : Option Addr) (cap n : Nat) (L : List ByteArray) (w : World) (h : Cdr w c cc b sb k p s) (hL : L.length = n) (hn : n ≤ 1000) (hLs : ∀ x ∈ L, x.size ≤ 140737488355328) (hr : Lies w w.heap.size a (strs L)) :
    Calls Tryz.prog 25 #[.pointer (some ⟨c, 0, none⟩), .slice a n cap] w fun e w' =>
      (∃ g vs, e = .returned (.tuple #[.slice (some ⟨g, 0, none⟩) n n, vs]) ∧ w.heap.size ≤ g ∧ Row w' g 48 (bytes (grid n (seenF (tl L)))) ∧ IReads w' vs (erasedF (tl L) n)) ∧ Below w.heap.size w w' := by
  obtain ⟨O, hO⟩ : ∃ O : List UInt8, O = List.replicate 60 0 := ⟨_, rfl⟩
  have HZ0 : Hid (∀ u, (zeroValue 48).run Tryz.prog u = .ok (.agg (bytes O).toArray) u) := Lib.hid (by rw [hO]; exact tag_zero)
  have LO : Hid ((bytes O).length = 60) := Lib.hid (by rw [hO, bytes_length, List.length_replicate])
  have HOO := Lib.hid hO
  have HR := Lib.hid hr
  have HLS := Lib.hid hLs
  have HLL := Lib.hid hL
  have HC := Lib.hid h
  have HI := Lib.hid info_block
  have HI2 := Lib.hid info_block2
  have HP0 : Hid (0 < 60) := Lib.hid (by omega)
  have HNM : Hid (n ≤ 1000000) := Lib.hid (by omega)
  have HTL : Hid (∀ i (hi : i < L.length), (tl L).getD i [] = L[i].data.toList) := Lib.hid fun i hi => tl_get L i hi
  obtain ⟨S, hS⟩ : ∃ S, tl L = S := ⟨_, rfl⟩
  rw [hS] at HTL ⊢
  have HMK : Hid (List.replicate (n * 60) (.int .u8 0) = bytes (grid n (seenT S 0))) := Lib.hid (seenT_zero S n).symm
  have hn1 : (n : Int) ≤ 1000 := by omega
  clear hO h hL hn hLs hr hS
  go_enter Tryz.func25, Tryz.ntmps25
  go_wp2_with ((with_reducible refine wpMakeS 24 48 (.int .u8 0) 60 n Tryz.underlying24 HI.out HI2.out HP0.out HNM.out ?_ ?_); rfl; intro u1 r1 b1 s1; rw [HMK.out] at r1; have R1 := Lib.hid r1; have B1 := Lib.hid b1; clear r1 b1 s1)
  obtain ⟨g, hg⟩ : ∃ g, w.heap.size = g := ⟨_, rfl⟩
  have HGW : Hid (w.heap.size ≤ g) := Lib.hid (by omega)
  have HGB : Hid (g < g + 1) := Lib.hid (by omega)
  rw [hg] at R1 ⊢
  have HG := Lib.hid hg
  clear hg
  go_loopw [7, 17] (fun v x wr => ∃ i : Nat, i ≤ n ∧ x = .int .i64 i ∧ wr.ownsRow (g + 1) 3 1 v (erasedF S i).length (nats (erasedF S i)) ∧ Row wr g 48 (bytes (grid n (seenT S i))) ∧ Below w.heap.size w wr) (fun _ x _ => n - (intOf x).toNat)
  case atStart => exact ⟨0, Nat.zero_le _, rfl, ⟨rfl, .inl ⟨rfl, rfl⟩⟩, R1.out, B1.out⟩
  case round =>
    clear R1 B1
    obtain ⟨i, hi, rfl, hown, hrow, hbw⟩ := hrel
    obtain ⟨av, cv, rfl, hcv, hlv⟩ := own_form2 hown
    by_cases hlt : i < n
    · have hii : (i : Int) < (n : Int) := by omega
      have hiL : i < L.length := by rw [HLL.out]; exact hlt
      obtain ⟨bl, off, rfl, hbb, hc⟩ := HR.out (by rw [strs_length]; omega)
      have hcell : wr.cell? ⟨bl, off + i, none⟩ = some (.string L[i]) := (hbw.cell (p := ⟨bl, off + i, none⟩) hbb).trans (hc i _ (strs_get L i hiL))
      have hsz := HLS.out L[i] (List.getElem_mem hiL)
      have hti := HTL.out i hiL
      obtain ⟨T, hT⟩ : ∃ T, L[i] = T := ⟨_, rfl⟩
      rw [hT] at hcell hsz hti
      have hcd := HC.out.step hbw
      have c4 := hcd.c4
      have hop := open_val (.pointer (some ⟨sb, 0, none⟩)) T wr hcd.smr hsz
      rw [← hti] at hop
      have hnx := seenT_next S n i hlt
      have LM : Hid ((bytes (blk (S.getD i []))).length = 60) := Lib.hid (by rw [bytes_length, blk_length])
      have HM1 : Hid ((bytes (blk (S.getD i []))).all (·.oneCell') = true) := Lib.hid (bytes_oneC _)
      have hes := erasedF_succ S i
      have hel := erasedF_le S i
      rw [seenT_now S n i hlt] at hrow
      obtain ⟨r, hrr⟩ : ∃ r, rightT (S.getD i []) = r := ⟨_, rfl⟩
      rw [hrr] at hop hes
      obtain ⟨M, hM⟩ : ∃ M, bytes (blk (S.getD i [])) = M := ⟨_, rfl⟩
      rw [hM] at hop hnx LM HM1
      have L1 : Hid ((bytes (grid i (seenF S))).length = i * 60) := Lib.hid (by rw [bytes_length, grid_length])
      have LZ : Hid ((bytes (List.replicate 60 0)).length = 60) := Lib.hid (by rw [bytes_length, List.length_replicate])
      generalize bytes (grid i (seenF S)) = F1 at hrow hnx L1
      generalize bytes (List.replicate 60 0) = F2 at hrow LZ
      generalize bytes (grid (n - i - 1) fun _ _ => 0) = F3 at hrow hnx
      have HNX := Lib.hid hnx
      have HOP := Lib.hid hop
      have HES := Lib.hid hes
      have HO1 : Hid ((Value.int .i64 (i : Int)).oneCell' = true) := Lib.hid rfl
      have HOL : Hid (∀ s, (Value.slice av (erasedF S i).length cv).ownBlock = some s → g + 1 ≤ s) := Lib.hid fun s hs => (hown.lt s hs).1
      have HPK : Big ((erasedF S i).length + 1 ≤ 1099511627776) := ⟨by omega⟩
      have HOWN := Lib.hid hown
      have HROW := Lib.hid hrow
      have HBW := Lib.hid hbw
      obtain ⟨U, hU⟩ : ∃ U, erasedF S i = U := ⟨_, rfl⟩
      rw [hU] at HES HOL HPK HOWN ⊢
      clear hown hrow hbw hcv hlv hc hbb hsz hti hT hcd hop hnx hes hel hrr hM hU hlt hiL
      cases r
      · have HLN : Hid ((erasedF S (i + 1)).length = U.length + 1) := Lib.hid (by rw [HES.out]; simp)
        have HNN : Hid (nats U ++ [.int .i64 (i : Int)] = nats (erasedF S (i + 1))) := Lib.hid (by rw [HES.out, ← nats_snoc]; simp)
        clear HES
        go_wp2_with (first
            | (go_at_call 51; (with_reducible refine (HOP.out).mono ?_); rintro e u1 ⟨rfl, b1⟩; have W1 := Lib.hid b1; have RW1 := Lib.hid (HROW.out.step b1); have OW1 := Lib.hid (own_below HOWN.out b1); have B1 := Lib.hid (HBW.out.next b1); clear b1)
            | ((with_reducible refine wpAllocK (w := u1) (bytes O) 48 HZ0.out ?_ ?_); rfl; intro u2 r2 b2 s2; have R2 := Lib.hid r2; have W2 := Lib.hid (W1.out.next b2); have RW2 := Lib.hid (RW1.out.step b2); have OW2 := Lib.hid (own_below OW1.out b2); have B2 := Lib.hid (B1.out.next b2); have NE2 : Hid (u1.heap.size ≠ g) := Lib.hid (by have := RW1.out.lt; omega); have LE2 : Hid (wr.heap.size ≤ u1.heap.size) := Lib.hid W1.out.size; clear r2 b2 s2)
            | ((with_reducible refine R2.out.wpStoreK 48 M fits_block LO.out LM.out HM1.out ?_ ?_); rfl; intro u3 r3 o3 s3; have R3 := Lib.hid r3; have hb3 : Below wr.heap.size wr u3 := (W2.out.trans (o3.below LE2.out W2.out.size)); have RW3 := Lib.hid (HROW.out.step hb3); have OW3 := Lib.hid (own_below HOWN.out hb3); have B3 := Lib.hid (HBW.out.next hb3); clear r3 o3 s3 hb3)
            | ((with_reducible refine R3.out.wpLoadK 48 fits_block LM.out ?_ ?_); rfl)
            | ((with_reducible refine RW3.out.wpStoreMidK (i * 60) L1.out 48 M fits_block LZ.out LM.out HM1.out ?_ ?_); rfl; intro u4 r4 o4 s4; rw [HNX.out] at r4; have R4 := Lib.hid r4; have OW4 := Lib.hid (own_only OW3.out o4 HGB.out); have B4 : Hid (Below w.heap.size w u4) := Lib.hid (B3.out.trans (o4.below HGW.out B3.out.size)); have OWA := Lib.hid (OW4.out.alloc (.cells #[.int .i64 (i : Int)] 3)); have HLA := Lib.hid (Lies.new [Value.int .i64 (i : Int)] u4 3); have BA := Lib.hid (B4.out.alloc B4.out.size (.cells #[.int .i64 (i : Int)] 3)); have HSA : Hid (g + 1 ≤ (u4.alloc (.cells #[.int .i64 (i : Int)] 3)).heap.size) := Lib.hid (Nat.le_trans (Nat.succ_le_of_lt R4.out.lt) (alloc_below u4 _).size); clear r4 o4 s4)
            | ((with_reducible refine wpAppend1K OWA.out Tryz.underlying38 one_int HLA.out HO1.out HPK HSA.out ?_ ?_); rfl; intro v5 u5 g5 q5 k5; rw [HNN.out] at g5; have O5 := Lib.hid g5; have R5 : Hid (Row u5 g 48 (bytes (grid n (seenT S (i + 1))))) := Lib.hid ((R4.out.alloc _).grown q5 (fun e => by have := HOL.out g e.symm; omega)); have B5 : Hid (Below w.heap.size w u5) := Lib.hid (BA.out.grown q5 BA.out.size (fun j hj => by have := HOL.out j hj; have := HGW.out; omega)); clear g5 q5 k5))
        go_roundw
        case rel => exact ⟨i + 1, by omega, by go_num, by rw [HLN.out]; exact O5.out, R5.out, B5.out⟩
        case measure => simp [intOf]; omega
      · have HNN : Hid (erasedF S (i + 1) = U) := Lib.hid (by rw [HES.out]; simp)
        clear HES HPK HOL HO1
        go_wp2_with (first
            | (go_at_call 51; (with_reducible refine (HOP.out).mono ?_); rintro e u1 ⟨rfl, b1⟩; have W1 := Lib.hid b1; have RW1 := Lib.hid (HROW.out.step b1); have OW1 := Lib.hid (own_below HOWN.out b1); have B1 := Lib.hid (HBW.out.next b1); clear b1)
            | ((with_reducible refine wpAllocK (w := u1) (bytes O) 48 HZ0.out ?_ ?_); rfl; intro u2 r2 b2 s2; have R2 := Lib.hid r2; have W2 := Lib.hid (W1.out.next b2); have RW2 := Lib.hid (RW1.out.step b2); have OW2 := Lib.hid (own_below OW1.out b2); have B2 := Lib.hid (B1.out.next b2); have NE2 : Hid (u1.heap.size ≠ g) := Lib.hid (by have := RW1.out.lt; omega); have LE2 : Hid (wr.heap.size ≤ u1.heap.size) := Lib.hid W1.out.size; clear r2 b2 s2)
            | ((with_reducible refine R2.out.wpStoreK 48 M fits_block LO.out LM.out HM1.out ?_ ?_); rfl; intro u3 r3 o3 s3; have R3 := Lib.hid r3; have hb3 : Below wr.heap.size wr u3 := (W2.out.trans (o3.below LE2.out W2.out.size)); have RW3 := Lib.hid (HROW.out.step hb3); have OW3 := Lib.hid (own_below HOWN.out hb3); have B3 := Lib.hid (HBW.out.next hb3); clear r3 o3 s3 hb3)
            | ((with_reducible refine R3.out.wpLoadK 48 fits_block LM.out ?_ ?_); rfl)
            | ((with_reducible refine RW3.out.wpStoreMidK (i * 60) L1.out 48 M fits_block LZ.out LM.out HM1.out ?_ ?_); rfl; intro u4 r4 o4 s4; rw [HNX.out] at r4; have R4 := Lib.hid r4; have OW4 := Lib.hid (own_only OW3.out o4 HGB.out); have B4 : Hid (Below w.heap.size w u4) := Lib.hid (B3.out.trans (o4.below HGW.out B3.out.size)); clear r4 o4 s4))
        go_roundw
        case rel => exact ⟨i + 1, by omega, by go_num, by rw [HNN.out]; exact OW4.out, R4.out, B4.out⟩
        case measure => simp [intOf]; omega
    · obtain rfl : i = n := by omega
      have HV : Hid (IReads wr (.slice av (erasedF S i).length cv) (erasedF S i)) := Lib.hid ⟨av, cv, rfl, hcv, hlv⟩
      rw [seenT_full] at hrow
      have HROW := Lib.hid hrow
      have HBW := Lib.hid hbw
      clear hown hrow hbw hcv hlv
      go_wp2
      go_ret2
      exact ⟨⟨_, _, rfl, HGW.out, HROW.out, HV.out⟩, HBW.out⟩

/-- What Mend answers of a word that can be mended. -/
def Mtp (B n : Nat) (m : List Nat) : Value → World → Prop := fun v w => ∃ g c y, v = .tuple #[.slice (some ⟨g, 0, none⟩) n c, y, .int .i64 0] ∧ B ≤ g ∧ Lies w w.heap.size (some ⟨g, 0, none⟩) (u8s m)
theorem Mtp.monot (B n : Nat) (m : List Nat) : Monot (Mtp B n m) := fun _ _ _ ⟨g, c, y, h1, h2, h3⟩ hb => ⟨g, c, y, h1, h2, h3.step hb⟩
def Nlc (B n : Nat) (m : List Nat) : Value → World → Prop := fun v w => ∃ g c, v = .slice (some ⟨g, 0, none⟩) n c ∧ B ≤ g ∧ Lies w w.heap.size (some ⟨g, 0, none⟩) (u8s m)
theorem Nlc.monot (B n : Nat) (m : List Nat) : Monot (Nlc B n m) := fun _ _ _ ⟨g, c, h1, h2, h3⟩ hb => ⟨g, c, h1, h2, h3.step hb⟩
theorem mendF_notarg {n p : Nat} {W : List Nat} {er : List Int} (h : inB n er = true) : mendF masseyF n p W er ≠ .arg := by
  rw [mendF_eq, h, if_neg (by simp)]
  unfold mendG
  simp only
  split <;> simp
theorem nats_inB {er : List Nat} {n : Nat} (h : ∀ x ∈ er, x < n) : inB n (er.map fun x : Nat => (x : Int)) = true := by
  unfold inB
  rw [List.all_eq_true]
  intro x hx
  obtain ⟨y, hy, rfl⟩ := List.mem_map.1 hx
  have := h y hy
  simp
  omega

/-- What mend tells. -/
def MendP (B n p : Nat) (f : Fb) (er : List Int) (e : Ending) (w' : World) : Prop :=
  if okTo n p f er 60 = true then ∃ g, e = .returned (.tuple #[.slice (some ⟨g, 0, none⟩) n n, .int .i64 0]) ∧ B ≤ g ∧ Row w' g 48 (bytes (grid n (mdF n p f er)))
  else e = .returned (.tuple #[.slice none 0 0, .int .i64 8])
set_option maxHeartbeats 1000000 in
theorem str_mend_any (c cc b sb k p s : Nat) (a : Option Addr) (cap n : Nat) (f : Fb) (ea : Option Addr) (ecap : Nat) (E : List Nat) (w : World) (h : Cdr w c cc b sb k p s) (hnn : n = k + p) (hr : Lies w w.heap.size a (bytes (grid n f))) (hE : Lies w w.heap.size ea (nats E)) (hEl : E.length ≤ 1000) (hEn : ∀ x ∈ E, x < n) :
    Calls Tryz.prog 26 #[.pointer (some ⟨c, 0, none⟩), .slice a n cap, .slice ea E.length ecap] w fun e w' => MendP w.heap.size n p f (E.map fun x : Nat => (x : Int)) e w' ∧ Below w.heap.size w w' := by
  have hin := nats_inB hEn
  rw [nats_ints] at hE
  have hlm : E.length = (E.map fun x : Nat => (x : Int)).length := by rw [List.length_map]
  rw [hlm] at hEl ⊢
  clear hlm
  obtain ⟨er, her⟩ : ∃ er, E.map (fun x : Nat => (x : Int)) = er := ⟨_, rfl⟩
  rw [her] at hin hE hEl ⊢
  have HWO0 : Hid (∀ (t : Nat) wx, t < 60 → Below w.heap.size w wx → Calls Tryz.prog 48 #[.slice a n cap, .int .i64 (t : Int)] wx fun e w' => (∃ g, e = .returned (.slice (some ⟨g, 0, none⟩) n n) ∧ wx.heap.size ≤ g ∧ Row w' g 5 (u8s (colF f n t))) ∧ Below wx.heap.size wx w') := Lib.hid fun t wx ht hb => str_word_any a cap n f t wx (by have := h.k8; have := h.p6; omega) ht ((hr.below hb).mono hb.size)
  have HME0 : Hid (∀ wx, Below w.heap.size w wx → ∀ g X, X.length = n → By X → Row wx g 5 (u8s X) → Calls Tryz.prog 52 #[.pointer (some ⟨cc, 0, none⟩), .slice (some ⟨g, 0, none⟩) n n, .slice ea er.length ecap] wx fun e w' =>
      Mdd wx.heap.size (mendF masseyF n p X er) n e w' ∧ Below wx.heap.size wx w') := Lib.hid fun wx hb g X h1 h2 h3 => by
    rw [hnn] at h1 ⊢
    exact mend_any cc b k p g 0 (k + p) X ea ecap er wx (h.step hb).cod h1 (by omega) h2 (row_lies h3) hEl ((hE.below hb).mono hb.size)
  have HC := Lib.hid h
  have HI := Lib.hid info_block
  have HI2 := Lib.hid info_block2
  have HP0 : Hid (0 < 60) := Lib.hid (by omega)
  have hn14 : n ≤ 14 := by have := h.k8; have := h.p6; omega
  have HNM : Hid (n ≤ 1000000) := Lib.hid (by omega)
  have HNL : Hid (n ≤ 1000) := Lib.hid (by omega)
  have HIN := Lib.hid hin
  have hni : (n : Int) ≤ 14 := by omega
  have HMK : Hid (List.replicate (n * 60) (.int .u8 0) = bytes (grid n (mdT n p f er 0))) := Lib.hid (by rw [mdT_zero, bytes_rep]; rfl)
  obtain ⟨ne, hne⟩ : ∃ ne, er.length = ne := ⟨_, rfl⟩
  rw [hne] at HME0 ⊢
  clear h hnn hr hE hEl hEn hin her hn14 hne
  go_enter Tryz.func26, Tryz.ntmps26
  go_wp2_with ((with_reducible refine wpMakeS 24 48 (.int .u8 0) 60 n Tryz.underlying24 HI.out HI2.out HP0.out HNM.out ?_ ?_); rfl; intro u1 r1 b1 s1; rw [HMK.out] at r1; have R1 := Lib.hid r1; have B1 := Lib.hid b1; clear r1 b1 s1)
  obtain ⟨g, hg⟩ : ∃ g, w.heap.size = g := ⟨_, rfl⟩
  have HGW : Hid (w.heap.size ≤ g) := Lib.hid (by omega)
  rw [hg] at R1 ⊢
  have HG := Lib.hid hg
  clear hg
  go_loopw [16] (fun x wr => ∃ t : Nat, t ≤ 60 ∧ x = .int .i64 t ∧ okTo n p f er t = true ∧ Row wr g 48 (bytes (grid n (mdT n p f er t))) ∧ Below w.heap.size w wr) (fun x _ => 60 - (intOf x).toNat)
  case atStart => exact ⟨0, by omega, rfl, rfl, R1.out, B1.out⟩
  case round =>
  clear R1 B1
  obtain ⟨t, ht, rfl, hok, hrow, hbw⟩ := hrel
  by_cases hlt : t < 60
  · have hti : (t : Int) < 60 := by omega
    have C0 := Lib.hid ((HC.out.step hbw).c0)
    have HLT := Lib.hid ((HC.out.step hbw).lt)
    have hX8 := colF_by f n t
    have hXl := colF_length f n t
    have HWO1 := Lib.hid (HWO0.out t)
    have hnx := mdT_next n p f er t
    have hsu := okTo_succ n p f er t
    rw [hok] at hsu
    have hfa := @okTo_false n p f er t hlt
    unfold okAt at hsu hfa
    have hna := mendF_notarg (p := p) (W := colF f n t) HIN.out
    obtain ⟨X, hX⟩ : ∃ X, colF f n t = X := ⟨_, rfl⟩
    rw [hX] at hX8 hXl HWO1 hnx hsu hfa hna
    have HME1 : Hid (∀ wx, Below w.heap.size w wx → ∀ g, Row wx g 5 (u8s X) → Calls Tryz.prog 52 #[.pointer (some ⟨cc, 0, none⟩), .slice (some ⟨g, 0, none⟩) n n, .slice ea ne ecap] wx fun e w' =>
      Mdd wx.heap.size (mendF masseyF n p X er) n e w' ∧ Below wx.heap.size wx w') := Lib.hid fun wx h1 g h2 => HME0.out wx h1 g X hXl hX8 h2
    have HMB : Hid (∀ m l, mendF masseyF n p X er = .ok m l → By m ∧ m.length = n) := Lib.hid fun m l hm => ⟨mendF_by hX8 hm, by rw [(mendF_ok hm).2.2.2, hXl]⟩
    have HWO : Hid (∀ wx, Below wr.heap.size wr wx → Calls Tryz.prog 48 #[.slice a n cap, .int .i64 (t : Int)] wx fun e w' => (∃ v, e = .returned v ∧ Nbs wr.heap.size n X v w') ∧ Below wx.heap.size wx w') := Lib.hid fun wx hb => (HWO1.out wx hlt (hbw.next hb)).mono fun e w' ⟨⟨g, h1, h2, h3⟩, h4⟩ => ⟨⟨_, h1, g, rfl, Nat.le_trans hb.size h2, h3⟩, h4⟩
    cases hmf : mendF masseyF n p X er with
    | arg => exact absurd hmf hna
    | ok m l =>
      obtain ⟨hm8, hml⟩ := HMB.out m l hmf
      have hnx2 := hnx m l hmf
      rw [hmf] at hsu
      have HOK1 : Hid (okTo n p f er (t + 1) = true) := Lib.hid (by rw [hsu]; rfl)
      rw [hmf] at HME1
      have HME : Hid (∀ wx, Below wr.heap.size wr wx → ∀ v, Nbs wr.heap.size n X v wx → Calls Tryz.prog 52 #[.pointer (some ⟨cc, 0, none⟩), v, .slice ea ne ecap] wx fun e w' => (∃ v, e = .returned v ∧ Mtp wr.heap.size n m v w') ∧ Below wx.heap.size wx w') := Lib.hid fun wx hb v ⟨g, e1, e2, e3⟩ => by
        subst e1
        exact (HME1.out wx (hbw.next hb) g e3).mono fun e w' ⟨⟨gm, cm, y, h1, h2, h3, h4, _⟩, h5⟩ => ⟨⟨_, h1, gm, cm, y, rfl, Nat.le_trans hb.size h3, h4⟩, h5⟩
      have HLA : Hid (∀ u g5 c5, g5 ≠ g → Row u g 48 (bytes (grid n (mdT n p f er t))) → Lies u u.heap.size (some ⟨g5, 0, none⟩) (u8s m) → Calls Tryz.prog 49 #[.slice (some ⟨g, 0, none⟩) n n, .int .i64 (t : Int), .slice (some ⟨g5, 0, none⟩) n c5] u fun e w' => e = .returned (.tuple #[]) ∧ Row w' g 48 (bytes (grid n (mdT n p f er (t + 1)))) ∧ Only g u w') := Lib.hid fun u g5 c5 h1 h2 h3 => by
        have := str_lay_any g 0 n n n _ (mdT n p f er t) [] t g5 0 c5 m u HNL.out (by omega) hlt hm8 hml h1 (by rw [List.append_nil]; exact h2) h3
        rw [hnx2, List.append_nil, Nat.zero_mul] at this
        exact this
      have HROW := Lib.hid hrow
      have HBW := Lib.hid hbw
      clear hrow hbw hlt hX8 hXl hnx hnx2 hX HWO1 HME1 hmf hm8 hml HMB hsu hfa hna hok
      go_wp2
      refine region_invX [(0, 20), (1, 21), (2, 22), (3, 23), (4, 24), (5, 25), (6, 26), (7, 27), (8, 28), (9, 19), (10, 29), (11, 30), (12, 31), (13, 10), (14, 11), (15, 12)]
        (fun ii => [Is (.pointer (some ⟨c, 0, none⟩)), Is (.pointer (some ⟨c, 0, none⟩)), Is (.pointer (some ⟨c, 0, none⟩)), Is (.pointer (some ⟨cc, 0, none⟩)), Is (.slice a n cap), Is (.int .i64 (t : Int)), Nbs wr.heap.size n X, Is (.slice ea ne ecap), Mtp wr.heap.size n m, Mtp wr.heap.size n m, Nlc wr.heap.size n m, Any, Is (.int .i64 0), Nlc wr.heap.size n m, Any, Is (.int .i64 0)].getD ii (Is undef))
        (fun w' => Below wr.heap.size wr w') (by kernel_rfl) (by kernel_rfl) (by decide) (by decide) (by kernel_rfl) rfl ?monoa ((Below.refl _ _).drew) ?stepa ?fina
      case monoa =>
        intro i
        match i with
        | 0 | 1 | 2 | 3 | 4 | 5 | 7 | 12 | 15 => exact Is.monot _
        | 6 => exact Nbs.monot _ _ _
        | 8 | 9 => exact Mtp.monot _ _ _
        | 10 | 13 => exact Nlc.monot _ _ _
        | 11 | 14 => exact Any.monot
        | _ + 16 => exact Is.monot _
      case stepa =>
        refine List.forall_mem_cons.2 ⟨?as0, List.forall_mem_cons.2 ⟨?as1, List.forall_mem_cons.2 ⟨?as2, List.forall_mem_cons.2 ⟨?as3, List.forall_mem_cons.2 ⟨?as4, List.forall_mem_cons.2 ⟨?as5, List.forall_mem_cons.2 ⟨?as6, List.forall_mem_cons.2 ⟨?as7, List.forall_mem_cons.2 ⟨?as8, List.forall_mem_cons.2 ⟨?as9, List.forall_mem_cons.2 ⟨?as10, List.forall_mem_cons.2 ⟨?as11, List.forall_mem_cons.2 ⟨?as12, List.forall_mem_cons.2 ⟨?as13, List.forall_mem_cons.2 ⟨?as14, List.forall_mem_cons.2 ⟨?as15, List.forall_mem_nil _⟩⟩⟩⟩⟩⟩⟩⟩⟩⟩⟩⟩⟩⟩⟩⟩
        case as0 =>
          intro u wx hg hC
          clear hC
          refine wpOp_step rfl (fun K hK => ?_)
          simp only [puts, List.foldl]
          go_simp
          exact hK _ _ ⟨rfl, rfl, hg, Below.refl _ _⟩
        case as1 =>
          intro u wx hg hC
          have hJ0 : u 0 = (.pointer (some ⟨c, 0, none⟩)) := hC.at 0 (by kernel_rfl)
          clear hC
          refine wpOp_step rfl (fun K hK => ?_)
          simp only [puts, List.foldl]
          go_simp
          exact hK _ _ ⟨rfl, rfl, hg, Below.refl _ _⟩
        case as2 =>
          intro u wx hg hC
          have hJ1 : u 1 = (.pointer (some ⟨c, 0, none⟩)) := hC.at 1 (by kernel_rfl)
          clear hC
          refine wpOp_step rfl (fun K hK => ?_)
          simp only [puts, List.foldl]
          go_simp
          exact hK _ _ ⟨rfl, rfl, hg, Below.refl _ _⟩
        case as3 =>
          intro u wx hg hC
          have hJ2 : u 2 = (.pointer (some ⟨c, 0, none⟩)) := hC.at 2 (by kernel_rfl)
          clear hC
          have hcl : wx.cell? ⟨c, 0, none⟩ = some (.pointer (some ⟨cc, 0, none⟩)) := (hg.cell (p := ⟨c, 0, none⟩) HLT.out).trans C0.out
          refine wpOp_step rfl (fun K hK => ?_)
          simp only [puts, List.foldl]
          go_simp
          exact hK _ _ ⟨rfl, rfl, hg, Below.refl _ _⟩
        case as4 =>
          intro u wx hg hC
          clear hC
          refine wpOp_step rfl (fun K hK => ?_)
          simp only [puts, List.foldl]
          go_simp
          exact hK _ _ ⟨rfl, rfl, hg, Below.refl _ _⟩
        case as5 =>
          intro u wx hg hC
          clear hC
          refine wpOp_step rfl (fun K hK => ?_)
          simp only [puts, List.foldl]
          go_simp
          exact hK _ _ ⟨rfl, rfl, hg, Below.refl _ _⟩
        case as6 =>
          intro u wx hg hC
          have hJ4 : u 4 = (.slice a n cap) := hC.at 4 (by kernel_rfl)
          have hJ5 : u 5 = (.int .i64 (t : Int)) := hC.at 5 (by kernel_rfl)
          clear hC
          refine wpOp_step rfl (fun K hK => ?_)
          simp only [puts, List.foldl]
          go_simp
          refine (HWO.out wx hg).mono ?_
          rintro e w' ⟨⟨v, rfl, hv⟩, hb'⟩
          exact hK _ _ ⟨rfl, hv, hg.next hb', hb'⟩
        case as7 =>
          intro u wx hg hC
          clear hC
          refine wpOp_step rfl (fun K hK => ?_)
          simp only [puts, List.foldl]
          go_simp
          exact hK _ _ ⟨rfl, rfl, hg, Below.refl _ _⟩
        case as8 =>
          intro u wx hg hC
          have hJ3 : u 3 = (.pointer (some ⟨cc, 0, none⟩)) := hC.at 3 (by kernel_rfl)
          have hJ6 : (Nbs wr.heap.size n X) (u 6) wx := hC.at 6 (by kernel_rfl)
          have hJ7 : u 7 = (.slice ea ne ecap) := hC.at 7 (by kernel_rfl)
          clear hC
          refine wpOp_step rfl (fun K hK => ?_)
          simp only [puts, List.foldl]
          go_simp
          refine (HME.out wx hg _ hJ6).mono ?_
          rintro e w' ⟨⟨v, rfl, hv⟩, hb'⟩
          exact hK _ _ ⟨rfl, hv, hg.next hb', hb'⟩
        case as9 =>
          intro u wx hg hC
          have hJ8 : (Mtp wr.heap.size n m) (u 8) wx := hC.at 8 (by kernel_rfl)
          clear hC
          refine wpOp_step rfl (fun K hK => ?_)
          simp only [puts, List.foldl]
          go_simp
          exact hK _ _ ⟨rfl, hJ8, hg, Below.refl _ _⟩
        case as10 =>
          intro u wx hg hC
          have hJ9 : (Mtp wr.heap.size n m) (u 9) wx := hC.at 9 (by kernel_rfl)
          clear hC
          obtain ⟨g9, c9, y9, e9, q9, r9⟩ := hJ9
          refine wpOp_step rfl (fun K hK => ?_)
          simp only [puts, List.foldl]
          go_simp
          exact hK _ _ ⟨rfl, ⟨g9, c9, rfl, q9, r9⟩, hg, Below.refl _ _⟩
        case as11 =>
          intro u wx hg hC
          have hJ9 : (Mtp wr.heap.size n m) (u 9) wx := hC.at 9 (by kernel_rfl)
          clear hC
          obtain ⟨g9, c9, y9, e9, q9, r9⟩ := hJ9
          refine wpOp_step rfl (fun K hK => ?_)
          simp only [puts, List.foldl]
          go_simp
          exact hK _ _ ⟨rfl, trivial, hg, Below.refl _ _⟩
        case as12 =>
          intro u wx hg hC
          have hJ9 : (Mtp wr.heap.size n m) (u 9) wx := hC.at 9 (by kernel_rfl)
          clear hC
          obtain ⟨g9, c9, y9, e9, q9, r9⟩ := hJ9
          refine wpOp_step rfl (fun K hK => ?_)
          simp only [puts, List.foldl]
          go_simp
          exact hK _ _ ⟨rfl, rfl, hg, Below.refl _ _⟩
        case as13 =>
          intro u wx hg hC
          have hJ10 : (Nlc wr.heap.size n m) (u 10) wx := hC.at 10 (by kernel_rfl)
          clear hC
          refine wpOp_step rfl (fun K hK => ?_)
          simp only [puts, List.foldl]
          go_simp
          exact hK _ _ ⟨rfl, hJ10, hg, Below.refl _ _⟩
        case as14 =>
          intro u wx hg hC
          have hJ11 : (Any) (u 11) wx := hC.at 11 (by kernel_rfl)
          clear hC
          refine wpOp_step rfl (fun K hK => ?_)
          simp only [puts, List.foldl]
          go_simp
          exact hK _ _ ⟨rfl, hJ11, hg, Below.refl _ _⟩
        case as15 =>
          intro u wx hg hC
          have hJ12 : u 12 = (.int .i64 0) := hC.at 12 (by kernel_rfl)
          clear hC
          refine wpOp_step rfl (fun K hK => ?_)
          simp only [puts, List.foldl]
          go_simp
          exact hK _ _ ⟨rfl, rfl, hg, Below.refl _ _⟩
      case fina =>
        intro u w4 hb4 hφ
        obtain ⟨g5, c5, e5, q5, r5⟩ : Nlc wr.heap.size n m (u 13) w4 := hφ (13, 10) (by decide)
        have e12 : u 15 = .int .i64 0 := hφ (15, 12) (by decide)
        clear hφ
        simp only [puts, List.foldl]
        rw [e5, e12]
        go_simp
        have R5 := Lib.hid r5
        have NE5 : Hid (g5 ≠ g) := Lib.hid (by have := HROW.out.lt; omega)
        have HB4 := Lib.hid (HBW.out.next hb4)
        have RW4 := Lib.hid (HROW.out.step hb4)
        clear r5 q5 hb4 e5 e12
        go_wp2_with (go_at_call 49; (with_reducible refine (HLA.out w4 g5 c5 NE5.out RW4.out R5.out).mono ?_); rintro e w5 ⟨rfl, r6, o6⟩; have R6 := Lib.hid r6; have B6 : Hid (Below w.heap.size w w5) := Lib.hid (HB4.out.trans (o6.below HGW.out HB4.out.size)); clear r6 o6)
        go_roundw
        case rel => exact ⟨t + 1, by omega, by go_num, by rw [HOK1.out], R6.out, B6.out⟩
        case measure => simp [intOf]; omega
    | bad =>
      rw [hmf] at hfa
      have HBAD : Hid (MendP w.heap.size n p f er = fun e w' => e = .returned (.tuple #[.slice none 0 0, .int .i64 8])) := Lib.hid (by
        funext e w'
        unfold MendP
        rw [if_neg (by rw [hfa rfl]; simp)])
      rw [hmf] at HME1
      have HME : Hid (∀ wx, Below wr.heap.size wr wx → ∀ v, Nbs wr.heap.size n X v wx → Calls Tryz.prog 52 #[.pointer (some ⟨cc, 0, none⟩), v, .slice ea ne ecap] wx fun e w' => e = .returned (.tuple #[.slice none 0 0, .slice none 0 0, .int .i64 8]) ∧ Below wx.heap.size wx w') := Lib.hid fun wx hb v ⟨g, e1, e2, e3⟩ => by
        subst e1
        exact HME1.out wx (hbw.next hb) g e3
      have HBW := Lib.hid hbw
      clear hrow hbw hlt hX8 hXl hnx hX HWO1 HME1 hmf HMB hsu hfa hna hok
      go_wp2
      refine region_invX [(0, 20), (1, 21), (2, 22), (3, 23), (4, 24), (5, 25), (6, 26), (7, 27), (8, 28), (9, 19), (10, 29), (11, 30), (12, 31), (13, 10), (14, 11), (15, 12)]
        (fun ii => [Is (.pointer (some ⟨c, 0, none⟩)), Is (.pointer (some ⟨c, 0, none⟩)), Is (.pointer (some ⟨c, 0, none⟩)), Is (.pointer (some ⟨cc, 0, none⟩)), Is (.slice a n cap), Is (.int .i64 (t : Int)), Nbs wr.heap.size n X, Is (.slice ea ne ecap), Is (.tuple #[.slice none 0 0, .slice none 0 0, .int .i64 8]), Is (.tuple #[.slice none 0 0, .slice none 0 0, .int .i64 8]), Is (.slice none 0 0), Is (.slice none 0 0), Is (.int .i64 8), Is (.slice none 0 0), Is (.slice none 0 0), Is (.int .i64 8)].getD ii (Is undef))
        (fun w' => Below wr.heap.size wr w') (by kernel_rfl) (by kernel_rfl) (by decide) (by decide) (by kernel_rfl) rfl ?monob ((Below.refl _ _).drew) ?stepb ?finb
      case monob =>
        intro i
        match i with
        | 0 | 1 | 2 | 3 | 4 | 5 | 7 | 8 | 9 | 10 | 11 | 12 | 13 | 14 | 15 => exact Is.monot _
        | 6 => exact Nbs.monot _ _ _
        | _ + 16 => exact Is.monot _
      case stepb =>
        refine List.forall_mem_cons.2 ⟨?bs0, List.forall_mem_cons.2 ⟨?bs1, List.forall_mem_cons.2 ⟨?bs2, List.forall_mem_cons.2 ⟨?bs3, List.forall_mem_cons.2 ⟨?bs4, List.forall_mem_cons.2 ⟨?bs5, List.forall_mem_cons.2 ⟨?bs6, List.forall_mem_cons.2 ⟨?bs7, List.forall_mem_cons.2 ⟨?bs8, List.forall_mem_cons.2 ⟨?bs9, List.forall_mem_cons.2 ⟨?bs10, List.forall_mem_cons.2 ⟨?bs11, List.forall_mem_cons.2 ⟨?bs12, List.forall_mem_cons.2 ⟨?bs13, List.forall_mem_cons.2 ⟨?bs14, List.forall_mem_cons.2 ⟨?bs15, List.forall_mem_nil _⟩⟩⟩⟩⟩⟩⟩⟩⟩⟩⟩⟩⟩⟩⟩⟩
        case bs0 =>
          intro u wx hg hC
          clear hC
          refine wpOp_step rfl (fun K hK => ?_)
          simp only [puts, List.foldl]
          go_simp
          exact hK _ _ ⟨rfl, rfl, hg, Below.refl _ _⟩
        case bs1 =>
          intro u wx hg hC
          have hJ0 : u 0 = (.pointer (some ⟨c, 0, none⟩)) := hC.at 0 (by kernel_rfl)
          clear hC
          refine wpOp_step rfl (fun K hK => ?_)
          simp only [puts, List.foldl]
          go_simp
          exact hK _ _ ⟨rfl, rfl, hg, Below.refl _ _⟩
        case bs2 =>
          intro u wx hg hC
          have hJ1 : u 1 = (.pointer (some ⟨c, 0, none⟩)) := hC.at 1 (by kernel_rfl)
          clear hC
          refine wpOp_step rfl (fun K hK => ?_)
          simp only [puts, List.foldl]
          go_simp
          exact hK _ _ ⟨rfl, rfl, hg, Below.refl _ _⟩
        case bs3 =>
          intro u wx hg hC
          have hJ2 : u 2 = (.pointer (some ⟨c, 0, none⟩)) := hC.at 2 (by kernel_rfl)
          clear hC
          have hcl : wx.cell? ⟨c, 0, none⟩ = some (.pointer (some ⟨cc, 0, none⟩)) := (hg.cell (p := ⟨c, 0, none⟩) HLT.out).trans C0.out
          refine wpOp_step rfl (fun K hK => ?_)
          simp only [puts, List.foldl]
          go_simp
          exact hK _ _ ⟨rfl, rfl, hg, Below.refl _ _⟩
        case bs4 =>
          intro u wx hg hC
          clear hC
          refine wpOp_step rfl (fun K hK => ?_)
          simp only [puts, List.foldl]
          go_simp
          exact hK _ _ ⟨rfl, rfl, hg, Below.refl _ _⟩
        case bs5 =>
          intro u wx hg hC
          clear hC
          refine wpOp_step rfl (fun K hK => ?_)
          simp only [puts, List.foldl]
          go_simp
          exact hK _ _ ⟨rfl, rfl, hg, Below.refl _ _⟩
        case bs6 =>
          intro u wx hg hC
          have hJ4 : u 4 = (.slice a n cap) := hC.at 4 (by kernel_rfl)
          have hJ5 : u 5 = (.int .i64 (t : Int)) := hC.at 5 (by kernel_rfl)
          clear hC
          refine wpOp_step rfl (fun K hK => ?_)
          simp only [puts, List.foldl]
          go_simp
          refine (HWO.out wx hg).mono ?_
          rintro e w' ⟨⟨v, rfl, hv⟩, hb'⟩
          exact hK _ _ ⟨rfl, hv, hg.next hb', hb'⟩
        case bs7 =>
          intro u wx hg hC
          clear hC
          refine wpOp_step rfl (fun K hK => ?_)
          simp only [puts, List.foldl]
          go_simp
          exact hK _ _ ⟨rfl, rfl, hg, Below.refl _ _⟩
        case bs8 =>
          intro u wx hg hC
          have hJ3 : u 3 = (.pointer (some ⟨cc, 0, none⟩)) := hC.at 3 (by kernel_rfl)
          have hJ6 : (Nbs wr.heap.size n X) (u 6) wx := hC.at 6 (by kernel_rfl)
          have hJ7 : u 7 = (.slice ea ne ecap) := hC.at 7 (by kernel_rfl)
          clear hC
          refine wpOp_step rfl (fun K hK => ?_)
          simp only [puts, List.foldl]
          go_simp
          refine (HME.out wx hg _ hJ6).mono ?_
          rintro e w' ⟨rfl, hb'⟩
          exact hK _ _ ⟨rfl, rfl, hg.next hb', hb'⟩
        case bs9 =>
          intro u wx hg hC
          have hJ8 : u 8 = (.tuple #[.slice none 0 0, .slice none 0 0, .int .i64 8]) := hC.at 8 (by kernel_rfl)
          clear hC
          refine wpOp_step rfl (fun K hK => ?_)
          simp only [puts, List.foldl]
          go_simp
          exact hK _ _ ⟨rfl, rfl, hg, Below.refl _ _⟩
        case bs10 =>
          intro u wx hg hC
          have hJ9 : u 9 = (.tuple #[.slice none 0 0, .slice none 0 0, .int .i64 8]) := hC.at 9 (by kernel_rfl)
          clear hC
          refine wpOp_step rfl (fun K hK => ?_)
          simp only [puts, List.foldl]
          go_simp
          exact hK _ _ ⟨rfl, rfl, hg, Below.refl _ _⟩
        case bs11 =>
          intro u wx hg hC
          have hJ9 : u 9 = (.tuple #[.slice none 0 0, .slice none 0 0, .int .i64 8]) := hC.at 9 (by kernel_rfl)
          clear hC
          refine wpOp_step rfl (fun K hK => ?_)
          simp only [puts, List.foldl]
          go_simp
          exact hK _ _ ⟨rfl, rfl, hg, Below.refl _ _⟩
        case bs12 =>
          intro u wx hg hC
          have hJ9 : u 9 = (.tuple #[.slice none 0 0, .slice none 0 0, .int .i64 8]) := hC.at 9 (by kernel_rfl)
          clear hC
          refine wpOp_step rfl (fun K hK => ?_)
          simp only [puts, List.foldl]
          go_simp
          exact hK _ _ ⟨rfl, rfl, hg, Below.refl _ _⟩
        case bs13 =>
          intro u wx hg hC
          have hJ10 : u 10 = (.slice none 0 0) := hC.at 10 (by kernel_rfl)
          clear hC
          refine wpOp_step rfl (fun K hK => ?_)
          simp only [puts, List.foldl]
          go_simp
          exact hK _ _ ⟨rfl, rfl, hg, Below.refl _ _⟩
        case bs14 =>
          intro u wx hg hC
          have hJ11 : u 11 = (.slice none 0 0) := hC.at 11 (by kernel_rfl)
          clear hC
          refine wpOp_step rfl (fun K hK => ?_)
          simp only [puts, List.foldl]
          go_simp
          exact hK _ _ ⟨rfl, rfl, hg, Below.refl _ _⟩
        case bs15 =>
          intro u wx hg hC
          have hJ12 : u 12 = (.int .i64 8) := hC.at 12 (by kernel_rfl)
          clear hC
          refine wpOp_step rfl (fun K hK => ?_)
          simp only [puts, List.foldl]
          go_simp
          exact hK _ _ ⟨rfl, rfl, hg, Below.refl _ _⟩
      case finb =>
        intro u w4 hb4 hφ
        have e12 : u 15 = .int .i64 8 := hφ (15, 12) (by decide)
        clear hφ
        simp only [puts, List.foldl]
        rw [e12]
        go_simp
        have HB4 := Lib.hid (HBW.out.next hb4)
        clear hb4 e12
        go_wp2
        go_ret2
        exact ⟨by rw [HBAD.out]; exact rfl, HB4.out⟩
  · obtain rfl : t = 60 := by omega
    have HROW : Hid (MendP w.heap.size n p f er (.returned (.tuple #[.slice (some ⟨g, 0, none⟩) n n, .int .i64 0])) wr) := Lib.hid (by
      unfold MendP
      rw [if_pos hok]
      rw [mdT_full] at hrow
      exact ⟨g, rfl, HGW.out, hrow⟩)
    have HBW := Lib.hid hbw
    clear hrow hbw hok
    go_wp2
    go_ret2
    exact ⟨HROW.out, HBW.out⟩
end Go.Proofs.YtnbjaijhdjneoaaGreat

namespace Go.Proofs.YtnbjaijhdjneoaaGreat
open Go.RowKit CrcMath GfMath PolyMath RsMath SolMath GeoMath
set_option linter.unusedVariables false
set_option maxRecDepth 100000

section
variable {P : Program}
theorem opBoxK {o : Oper} {A : Act} {wx : World} {K : Act → World → Prop} {Q : Exit → Act → World → Prop} {φ : Value → World → Prop} {G : World → Prop} (l : List Value) (ty : TypeId) (d : Nat) (hd : o.dst = some d) (hs : d < A.tmps.size)
    (hK : ∀ a' w', (a'.defers = A.defers ∧ φ (a'.tmps.getD d undef) w' ∧ G w' ∧ Below wx.heap.size wx w') → K a' w') (x : Operand) (hop : o.op = .box ty x) (hx : A.eval x = .agg l.toArray)
    (hφ : ∀ w', Row w' wx.heap.size ty l → Below wx.heap.size wx w' → φ (.pointer (some ⟨wx.heap.size, 0, none⟩)) w' ∧ G w') : o.wp P A wx K Q := by
  unfold Oper.wp execOp
  simp only [hop, hx, Instr.box, newVar, Value.cells]
  simp [go_sem]
  have hb : Below wx.heap.size wx (wx.alloc (.cells l.toArray ty)) := (Below.refl _ _).alloc (Nat.le_refl _) _
  have := hφ _ (Row.new wx ty l) hb
  refine hK _ _ ⟨put_defers _ _ _, ?_, this.2, hb⟩
  rw [hd]
  show φ ((A.put (some d) (.pointer (some ⟨wx.heap.size, 0, none⟩))).tmps.getD d undef) _
  rw [put_get A d _ hs]
  exact this.1
/-- make([]T, n), T of one cell. -/
theorem wpMake1 {ops : Array Oper} {rest : List Oper} {o : Oper} {a : Act} {w : World} {Q : Exit → Act → World → Prop} (T e : TypeId) (zv : Value) (n : Nat) (hT : P.underlying T = some (.slice e)) (hz : (P.info? e).map (fun i => (i.zero, i.size)) = some (some zv, 1)) (hzc : zv.cells = #[zv]) (hb : ((P.info? e).map fun i => decide (i.bytes ≤ 4096)) = some true)
    (hn : n ≤ 1000000) (ho : makeOf o a = some (T, .int .i64 (n : Int), .int .i64 (n : Int)))
    (k : ∀ w', Row w' w.heap.size e (List.replicate n zv) → Below w.heap.size w w' → w'.heap.size = w.heap.size + 1 → wpList P ops Q rest (a.put o.dst (.slice (some ⟨w.heap.size, 0, none⟩) n n)) w') : wpList P ops Q (o :: rest) a w := by
  obtain ⟨hg, x, y, hop, hx, hy⟩ := makeOf_spec ho
  cases hq : P.info? e with
  | none => rw [hq] at hz; cases hz
  | some i =>
    rw [hq] at hz hb
    simp only [Option.map_some, Option.some.injEq, Prod.mk.injEq] at hz
    simp only [Option.map_some, Option.some.injEq, decide_eq_true_eq] at hb
    have hbb : (i.bytes : Int) * (n : Int) ≤ 281474976710656 := by
      have h1 : i.bytes * n ≤ 4096 * 1000000 := Nat.mul_le_mul hb hn
      have h2 : ((i.bytes * n : Nat) : Int) ≤ 281474976710656 := by omega
      rwa [Int.natCast_mul] at h2
    have hr := run_make (P := P) w T e i _ hT hq hz.1 .i64 .i64 (n : Int) (n : Int) (by omega) (by omega) hbb (by omega)
    rw [Int.toNat_natCast, hz.2, Nat.mul_one, hzc] at hr
    have hm : madeCells #[zv] n = (List.replicate n zv).toArray := by
      apply Array.ext'
      rw [toList_madeCells_one]
    rw [hm] at hr
    refine wpList_plain hg fun K hK => ?_
    unfold Oper.wp execOp
    simp only [hop, hx, hy, Sem.run_bind, hr, Result.andThen_ok]
    exact hK _ _ (k _ (Row.new w e _) ((Below.refl _ _).alloc (Nat.le_refl _) _) (by simp))
end
theorem info_str : (Tryz.prog.info? 9).map (fun i => (i.zero, i.size)) = some (some (.string ByteArray.empty), 1) := by kernel_rfl
theorem info_str2 : ((Tryz.prog.info? 9).map fun i => decide (i.bytes ≤ 4096)) = some true := by kernel_rfl

/-- A field; a code; a coder. -/
def FldP : Value → World → Prop := fun v w => ∃ b, v = .pointer (some ⟨b, 0, none⟩) ∧ Fld w b
theorem FldP.monot : Monot FldP := fun _ _ _ ⟨b, h1, h2⟩ hb => ⟨b, h1, h2.step hb⟩
def CodP (k p : Nat) : Value → World → Prop := fun v w => ∃ cc b, v = .tuple #[.pointer (some ⟨cc, 0, none⟩), .int .i64 0] ∧ Cod w cc b k p
theorem CodP.monot (k p : Nat) : Monot (CodP k p) := fun _ _ _ ⟨cc, b, h1, h2⟩ hb => ⟨cc, b, h1, h2.step hb⟩
def CodQ (k p : Nat) : Value → World → Prop := fun v w => ∃ cc b, v = .pointer (some ⟨cc, 0, none⟩) ∧ Cod w cc b k p
theorem CodQ.monot (k p : Nat) : Monot (CodQ k p) := fun _ _ _ ⟨cc, b, h1, h2⟩ hb => ⟨cc, b, h1, h2.step hb⟩
def BldP (cc k p s : Nat) : Value → World → Prop := fun v w => ∃ sb, v = .agg (cdrL cc k p s sb).toArray ∧ Smr (.pointer (some ⟨sb, 0, none⟩)) w
theorem BldP.monot (cc k p s : Nat) : Monot (BldP cc k p s) := fun _ _ _ ⟨sb, h1, h2⟩ hb => ⟨sb, h1, Smr.monot _ _ _ h2 hb⟩
def NbC (B : World) (cc k p s : Nat) : Value → World → Prop := fun v w => ∃ g sb, v = .pointer (some ⟨g, 0, none⟩) ∧ B.heap.size ≤ g ∧ Row w g 62 (cdrL cc k p s sb) ∧ Smr (.pointer (some ⟨sb, 0, none⟩)) w
theorem NbC.monot (B : World) (cc k p s : Nat) : Monot (NbC B cc k p s) := fun _ _ _ ⟨g, sb, h1, h2, h3, h4⟩ hb => ⟨g, sb, h1, h2, h3.step hb, Smr.monot _ _ _ h4 hb⟩

theorem right_gmN {k p s : Nat} (hk : 1 ≤ k) (hk8 : k ≤ 8) (hp : 2 ≤ p) (hp6 : p ≤ 6) (hs : 1 ≤ s) (hs8 : s ≤ 8) : right (gmN k p s) = true := by
  refine (right_iff _).2 ⟨?_, ?_, ?_, ?_, ?_, ?_⟩ <;> simp only [gmN] <;> omega
theorem right_is {g : Gm} (h : right g = true) : ∃ k p s : Nat, g = gmN k p s ∧ 1 ≤ k ∧ k ≤ 8 ∧ 2 ≤ p ∧ p ≤ 6 ∧ 1 ≤ s ∧ s ≤ 8 := by
  have hg := (right_iff g).1 h
  have h1 := hg.d1; have h2 := hg.d8; have h3 := hg.p2; have h4 := hg.p6; have h5 := hg.s1; have h6 := hg.s8
  obtain ⟨d, p, s⟩ := g
  simp only at h1 h2 h3 h4 h5 h6
  refine ⟨d.toNat, p.toNat, s.toNat, ?_, by omega, by omega, by omega, by omega, by omega, by omega⟩
  simp only [gmN, Gm.mk.injEq]
  omega

set_option maxHeartbeats 1000000 in
theorem str_new_any (k p s : Nat) (w : World) (hk : 1 ≤ k) (hk8 : k ≤ 8) (hp : 2 ≤ p) (hp6 : p ≤ 6) (hs : 1 ≤ s) (hs8 : s ≤ 8) :
    Calls Tryz.prog 6 #[geoV (gmN k p s)] w fun e w' => (∃ c cc b sb, e = .returned (.tuple #[.pointer (some ⟨c, 0, none⟩), .int .i64 0]) ∧ Cdr w' c cc b sb k p s) ∧ Below w.heap.size w w' := by
  have hr := right_gmN hk hk8 hp hp6 hs hs8
  have HX := Lib.hid fun w1 => right_any (gmN k p s) w1
  rw [hr] at HX
  have hwd := wide_yes hr
  obtain ⟨n, hn⟩ : ∃ n, k + p = n := ⟨_, rfl⟩
  have hwn : wide (gmN k p s) = (n : Int) := by rw [hwd]; simp only [gmN]; omega
  have HWI : Hid (∀ wx, Calls Tryz.prog 18 #[.agg #[.int .i64 (k : Int), .int .i64 (p : Int), .int .i64 (s : Int)]] wx fun e w' => e = .returned (.int .i64 (n : Int)) ∧ Below wx.heap.size wx w') := Lib.hid fun wx => by
    have := wide_any (gmN k p s) wx
    rw [hwn] at this
    exact this
  have HGF : Hid (∀ wx, Calls Tryz.prog 17 #[] wx fun e w' => (∃ v, e = .returned v ∧ FldP v w') ∧ Below wx.heap.size wx w') := Lib.hid fun wx => (gfNew_any wx).mono fun e w' ⟨h1, h2, h3⟩ => ⟨⟨_, h1, _, rfl, h2⟩, h3⟩
  have HRS : Hid (∀ wx v, FldP v wx → Calls Tryz.prog 16 #[v, .int .i64 (n : Int), .int .i64 (k : Int)] wx fun e w' => (∃ v, e = .returned v ∧ CodP k p v w') ∧ Below wx.heap.size wx w') := Lib.hid fun wx v ⟨b, e1, e2⟩ => by
    subst e1
    rw [← hn]
    exact (rsNew_any b k p wx e2 hk (by omega) (by omega) (by omega)).mono fun e w' ⟨⟨c, h1, h2⟩, h3⟩ => ⟨⟨_, h1, c, b, rfl, h2⟩, h3⟩
  have HCR := Lib.hid smr_new
  have HK : Hid (1 ≤ k ∧ k ≤ 8 ∧ 2 ≤ p ∧ p ≤ 6) := Lib.hid ⟨hk, hk8, hp, hp6⟩
  have HV : Hid (geoV (gmN k p s) = .agg [Value.int .i64 (k : Int), .int .i64 (p : Int), .int .i64 (s : Int)].toArray) := Lib.hid rfl
  rw [HV.out] at HX ⊢
  clear hr hwd hwn hn hk hk8 hp hp6 hs hs8 HV
  go_enter Tryz.func6, Tryz.ntmps6
  go_wp2_with (first
    | ((with_reducible refine wpBoxK [Value.int .i64 (k : Int), .int .i64 (p : Int), .int .i64 (s : Int)] 23 ?_ ?_); rfl; intro w1 r1 b1 s1; have R1 := Lib.hid r1; have B1 := Lib.hid b1; clear r1 b1 s1)
    | ((with_reducible refine R1.out.wpLoadK 23 fits_geo rfl ?_ ?_); rfl)
    | (go_at_call 15; (with_reducible refine (HX.out w1).mono ?_); rintro e w2 ⟨rfl, b2⟩; have R2 := Lib.hid (R1.out.step b2); have B2 := Lib.hid (B1.out.next b2); clear b2))
  obtain ⟨g1, hg1⟩ : ∃ g, w.heap.size = g := ⟨_, rfl⟩
  rw [hg1] at R2 ⊢
  clear hg1
  have C0 : Hid (w2.cell? ⟨g1, 0, none⟩ = some (.int .i64 (k : Int))) := Lib.hid (R2.out.cell 0)
  have C1 : Hid (w2.cell? ⟨g1, 1, none⟩ = some (.int .i64 (p : Int))) := Lib.hid (R2.out.cell 1)
  have C2 : Hid (w2.cell? ⟨g1, 2, none⟩ = some (.int .i64 (s : Int))) := Lib.hid (R2.out.cell 2)
  have G2 := Lib.hid R2.out.lt
  clear R1 B1
  refine region_invX [(0, 10), (1, 11), (2, 12), (3, 13), (4, 14), (5, 15), (6, 9), (7, 16), (8, 17), (9, 4), (10, 5)]
    (fun ii => [FldP, Is (.agg #[(.int .i64 (k : Int)), (.int .i64 (p : Int)), (.int .i64 (s : Int))]), Is (.int .i64 (n : Int)), Is (.pointer (some ⟨g1, 0, none⟩)), Is (.int .i64 (k : Int)), CodP k p, CodP k p, CodQ k p, Is (.int .i64 0), CodQ k p, Is (.int .i64 0)].getD ii (Is undef))
    (fun w' => Below w2.heap.size w2 w') (by kernel_rfl) (by kernel_rfl) (by decide) (by decide) (by kernel_rfl) rfl ?monoa ((Below.refl _ _).drew) ?stepa ?fina
  case monoa =>
    intro i
    match i with
    | 0 => exact FldP.monot
    | 1 | 2 | 3 | 4 | 8 | 10 => exact Is.monot _
    | 5 | 6 => exact CodP.monot _ _
    | 7 | 9 => exact CodQ.monot _ _
    | _ + 11 => exact Is.monot _
  case stepa =>
    refine List.forall_mem_cons.2 ⟨?as0, List.forall_mem_cons.2 ⟨?as1, List.forall_mem_cons.2 ⟨?as2, List.forall_mem_cons.2 ⟨?as3, List.forall_mem_cons.2 ⟨?as4, List.forall_mem_cons.2 ⟨?as5, List.forall_mem_cons.2 ⟨?as6, List.forall_mem_cons.2 ⟨?as7, List.forall_mem_cons.2 ⟨?as8, List.forall_mem_cons.2 ⟨?as9, List.forall_mem_cons.2 ⟨?as10, List.forall_mem_nil _⟩⟩⟩⟩⟩⟩⟩⟩⟩⟩⟩
    case as0 =>
      intro u wx hg hC
      clear hC
      refine wpOp_step rfl (fun K hK => ?_)
      simp only [puts, List.foldl]
      go_simp
      refine (HGF.out wx).mono ?_
      rintro e w' ⟨⟨v, rfl, hv⟩, hb'⟩
      exact hK _ _ ⟨rfl, hv, hg.next hb', hb'⟩
    case as1 =>
      intro u wx hg hC
      clear hC
      have hcl0 : wx.cell? ⟨g1, 0, none⟩ = some (.int .i64 (k : Int)) := (hg.cell (p := ⟨g1, 0, none⟩) G2.out).trans C0.out
      have hcl1 : wx.cell? ⟨g1, 1, none⟩ = some (.int .i64 (p : Int)) := (hg.cell (p := ⟨g1, 1, none⟩) G2.out).trans C1.out
      have hcl2 : wx.cell? ⟨g1, 2, none⟩ = some (.int .i64 (s : Int)) := (hg.cell (p := ⟨g1, 2, none⟩) G2.out).trans C2.out
      refine wpOp_step rfl (fun K hK => ?_)
      simp only [puts, List.foldl]
      go_simp
      exact hK _ _ ⟨rfl, rfl, hg, Below.refl _ _⟩
    case as2 =>
      intro u wx hg hC
      have hJ1 : u 1 = (.agg #[(.int .i64 (k : Int)), (.int .i64 (p : Int)), (.int .i64 (s : Int))]) := hC.at 1 (by kernel_rfl)
      clear hC
      refine wpOp_step rfl (fun K hK => ?_)
      simp only [puts, List.foldl]
      go_simp
      refine (HWI.out wx).mono ?_
      rintro e w' ⟨rfl, hb'⟩
      exact hK _ _ ⟨rfl, rfl, hg.next hb', hb'⟩
    case as3 =>
      intro u wx hg hC
      clear hC
      refine wpOp_step rfl (fun K hK => ?_)
      simp only [puts, List.foldl]
      go_simp
      exact hK _ _ ⟨rfl, rfl, hg, Below.refl _ _⟩
    case as4 =>
      intro u wx hg hC
      have hJ3 : u 3 = (.pointer (some ⟨g1, 0, none⟩)) := hC.at 3 (by kernel_rfl)
      clear hC
      have hcl : wx.cell? ⟨g1, 0, none⟩ = some (.int .i64 (k : Int)) := (hg.cell (p := ⟨g1, 0, none⟩) G2.out).trans C0.out
      refine wpOp_step rfl (fun K hK => ?_)
      simp only [puts, List.foldl]
      go_simp
      exact hK _ _ ⟨rfl, rfl, hg, Below.refl _ _⟩
    case as5 =>
      intro u wx hg hC
      have hJ0 : (FldP) (u 0) wx := hC.at 0 (by kernel_rfl)
      have hJ2 : u 2 = (.int .i64 (n : Int)) := hC.at 2 (by kernel_rfl)
      have hJ4 : u 4 = (.int .i64 (k : Int)) := hC.at 4 (by kernel_rfl)
      clear hC
      refine wpOp_step rfl (fun K hK => ?_)
      simp only [puts, List.foldl]
      go_simp
      refine (HRS.out wx _ hJ0).mono ?_
      rintro e w' ⟨⟨v, rfl, hv⟩, hb'⟩
      exact hK _ _ ⟨rfl, hv, hg.next hb', hb'⟩
    case as6 =>
      intro u wx hg hC
      have hJ5 : (CodP k p) (u 5) wx := hC.at 5 (by kernel_rfl)
      clear hC
      refine wpOp_step rfl (fun K hK => ?_)
      simp only [puts, List.foldl]
      go_simp
      exact hK _ _ ⟨rfl, hJ5, hg, Below.refl _ _⟩
    case as7 =>
      intro u wx hg hC
      have hJ6 : (CodP k p) (u 6) wx := hC.at 6 (by kernel_rfl)
      clear hC
      obtain ⟨cc, b, e9, q9⟩ := hJ6
      refine wpOp_step rfl (fun K hK => ?_)
      simp only [puts, List.foldl]
      go_simp
      exact hK _ _ ⟨rfl, ⟨cc, b, rfl, q9⟩, hg, Below.refl _ _⟩
    case as8 =>
      intro u wx hg hC
      have hJ6 : (CodP k p) (u 6) wx := hC.at 6 (by kernel_rfl)
      clear hC
      obtain ⟨cc, b, e9, q9⟩ := hJ6
      refine wpOp_step rfl (fun K hK => ?_)
      simp only [puts, List.foldl]
      go_simp
      exact hK _ _ ⟨rfl, rfl, hg, Below.refl _ _⟩
    case as9 =>
      intro u wx hg hC
      have hJ7 : (CodQ k p) (u 7) wx := hC.at 7 (by kernel_rfl)
      clear hC
      refine wpOp_step rfl (fun K hK => ?_)
      simp only [puts, List.foldl]
      go_simp
      exact hK _ _ ⟨rfl, hJ7, hg, Below.refl _ _⟩
    case as10 =>
      intro u wx hg hC
      have hJ8 : u 8 = (.int .i64 0) := hC.at 8 (by kernel_rfl)
      clear hC
      refine wpOp_step rfl (fun K hK => ?_)
      simp only [puts, List.foldl]
      go_simp
      exact hK _ _ ⟨rfl, rfl, hg, Below.refl _ _⟩
  case fina =>
    intro u w5 hb5 hφ
    obtain ⟨cc, b, e4, q4⟩ : CodQ k p (u 9) w5 := hφ (9, 4) (by decide)
    have e5 : u 10 = .int .i64 0 := hφ (10, 5) (by decide)
    clear hφ
    simp only [puts, List.foldl]
    rw [e4, e5]
    go_simp
    have HCD5 := Lib.hid q4
    have B5 := Lib.hid (B2.out.next hb5)
    have G5 : Hid (g1 < w5.heap.size) := Lib.hid (Nat.lt_of_lt_of_le G2.out hb5.size)
    have D0 : Hid (w5.cell? ⟨g1, 0, none⟩ = some (.int .i64 (k : Int))) := Lib.hid ((hb5.cell (p := ⟨g1, 0, none⟩) G2.out).trans C0.out)
    have D1 : Hid (w5.cell? ⟨g1, 1, none⟩ = some (.int .i64 (p : Int))) := Lib.hid ((hb5.cell (p := ⟨g1, 1, none⟩) G2.out).trans C1.out)
    have D2 : Hid (w5.cell? ⟨g1, 2, none⟩ = some (.int .i64 (s : Int))) := Lib.hid ((hb5.cell (p := ⟨g1, 2, none⟩) G2.out).trans C2.out)
    clear hb5 e4 e5 q4
    go_wp2
    refine region_invX [(0, 18), (1, 19), (2, 20), (3, 21), (4, 22), (5, 2), (6, 3)]
      (fun ii => [Is (.pointer (some ⟨cc, 0, none⟩)), Is (.agg #[(.int .i64 (k : Int)), (.int .i64 (p : Int)), (.int .i64 (s : Int))]), Smr, BldP cc k p s, NbC w5 cc k p s, NbC w5 cc k p s, Is (.int .i64 0)].getD ii (Is undef))
      (fun w' => Below w5.heap.size w5 w') (by kernel_rfl) (by kernel_rfl) (by decide) (by decide) (by kernel_rfl) rfl ?monob ((Below.refl _ _).drew) ?stepb ?finb
    case monob =>
      intro i
      match i with
      | 0 | 1 | 6 => exact Is.monot _
      | 2 => exact Smr.monot
      | 3 => exact BldP.monot _ _ _ _
      | 4 | 5 => exact NbC.monot _ _ _ _ _
      | _ + 7 => exact Is.monot _
    case stepb =>
      refine List.forall_mem_cons.2 ⟨?bs0, List.forall_mem_cons.2 ⟨?bs1, List.forall_mem_cons.2 ⟨?bs2, List.forall_mem_cons.2 ⟨?bs3, List.forall_mem_cons.2 ⟨?bs4, List.forall_mem_cons.2 ⟨?bs5, List.forall_mem_cons.2 ⟨?bs6, List.forall_mem_nil _⟩⟩⟩⟩⟩⟩⟩
      case bs0 =>
        intro u wx hg hC
        clear hC
        refine wpOp_step rfl (fun K hK => ?_)
        simp only [puts, List.foldl]
        go_simp
        exact hK _ _ ⟨rfl, rfl, hg, Below.refl _ _⟩
      case bs1 =>
        intro u wx hg hC
        clear hC
        have hcl0 : wx.cell? ⟨g1, 0, none⟩ = some (.int .i64 (k : Int)) := (hg.cell (p := ⟨g1, 0, none⟩) G5.out).trans D0.out
        have hcl1 : wx.cell? ⟨g1, 1, none⟩ = some (.int .i64 (p : Int)) := (hg.cell (p := ⟨g1, 1, none⟩) G5.out).trans D1.out
        have hcl2 : wx.cell? ⟨g1, 2, none⟩ = some (.int .i64 (s : Int)) := (hg.cell (p := ⟨g1, 2, none⟩) G5.out).trans D2.out
        refine wpOp_step rfl (fun K hK => ?_)
        simp only [puts, List.foldl]
        go_simp
        exact hK _ _ ⟨rfl, rfl, hg, Below.refl _ _⟩
      case bs2 =>
        intro u wx hg hC
        clear hC
        refine wpOp_step rfl (fun K hK => ?_)
        simp only [puts, List.foldl]
        go_simp
        refine (HCR.out wx).mono ?_
        rintro e w' ⟨v, rfl, hv, hb'⟩
        exact hK _ _ ⟨rfl, hv, hg.next hb', hb'⟩
      case bs3 =>
        intro u wx hg hC
        have hJ0 : u 0 = (.pointer (some ⟨cc, 0, none⟩)) := hC.at 0 (by kernel_rfl)
        have hJ1 : u 1 = (.agg #[(.int .i64 (k : Int)), (.int .i64 (p : Int)), (.int .i64 (s : Int))]) := hC.at 1 (by kernel_rfl)
        have hJ2 : (Smr) (u 2) wx := hC.at 2 (by kernel_rfl)
        clear hC
        obtain ⟨sb, e9, q9, r9⟩ := hJ2
        refine wpOp_step rfl (fun K hK => ?_)
        simp only [puts, List.foldl]
        go_simp
        exact hK _ _ ⟨rfl, ⟨sb, rfl, sb, rfl, q9, r9⟩, hg, Below.refl _ _⟩
      case bs4 =>
        intro u wx hg hC
        have hJ3 : (BldP cc k p s) (u 3) wx := hC.at 3 (by kernel_rfl)
        clear hC
        obtain ⟨sb, e9, q9⟩ := hJ3
        generalize hA : puts [(0, 18), (1, 19), (2, 20), (3, 21), (4, 22), (5, 2), (6, 3)] _ u = A
        have hp : A.tmps.getD 21 undef = .agg (cdrL cc k p s sb).toArray := by rw [← hA]; exact (puts_get u 3 21 _ _ (by decide) (by decide) (by kernel_rfl)).trans e9
        have hsz : 22 < A.tmps.size := by rw [← hA]; exact puts_room u (by kernel_rfl)
        refine wpOp_step rfl (fun K hK => ?_)
        clear hA
        exact opBoxK (φ := NbC w5 cc k p s) (cdrL cc k p s sb) _ 22 rfl hsz hK (.tmp 21) rfl hp fun w' hr hb => ⟨⟨_, sb, rfl, hg.size, hr, Smr.monot _ _ _ q9 hb⟩, hg.next hb⟩
      case bs5 =>
        intro u wx hg hC
        have hJ4 : (NbC w5 cc k p s) (u 4) wx := hC.at 4 (by kernel_rfl)
        clear hC
        refine wpOp_step rfl (fun K hK => ?_)
        simp only [puts, List.foldl]
        go_simp
        exact hK _ _ ⟨rfl, hJ4, hg, Below.refl _ _⟩
      case bs6 =>
        intro u wx hg hC
        clear hC
        refine wpOp_step rfl (fun K hK => ?_)
        simp only [puts, List.foldl]
        go_simp
        exact hK _ _ ⟨rfl, rfl, hg, Below.refl _ _⟩
    case finb =>
      intro u w7 hb7 hφ
      obtain ⟨g7, sb, e7, q7, r7, m7⟩ : NbC w5 cc k p s (u 5) w7 := hφ (5, 2) (by decide)
      have e3 : u 6 = .int .i64 0 := hφ (6, 3) (by decide)
      clear hφ
      simp only [puts, List.foldl]
      rw [e7, e3]
      go_simp
      have HB7 := Lib.hid (B5.out.next hb7)
      have HCD : Hid (Cdr w7 g7 cc b sb k p s) := Lib.hid ⟨HK.out.1, HK.out.2.1, HK.out.2.2.1, HK.out.2.2.2, r7, HCD5.out.step hb7, m7⟩
      clear hb7 e7 e3 r7 m7 q7
      go_wp2
      go_ret2
      exact ⟨⟨_, _, _, _, rfl, HCD.out⟩, HB7.out⟩

/-- A stripe's sectors. -/
def secF (f : Fb) (k p i : Nat) : ByteArray := str (sealB (bkF (wholeF f k p) i))
def encT (f : Fb) (k p t : Nat) : List ByteArray := (List.range (k + p)).map fun i => if i < t then secF f k p i else ByteArray.empty
def encF (f : Fb) (k p : Nat) : List ByteArray := (List.range (k + p)).map fun i => secF f k p i
theorem encT_full (f : Fb) (k p : Nat) : encT f k p (k + p) = encF f k p := List.map_congr_left fun i hi => if_pos (List.mem_range.1 hi)
theorem encF_length (f : Fb) (k p : Nat) : (encF f k p).length = k + p := by simp [encF]
theorem encT_zero (f : Fb) (k p : Nat) : strs (encT f k p 0) = List.replicate (k + p) (.string ByteArray.empty) := by
  rw [strs, encT, List.map_map]
  refine List.ext_getElem? fun q => ?_
  by_cases h : q < k + p
  · simp [h]
  · rw [List.getElem?_eq_none (by simp; omega), List.getElem?_eq_none (by simp; omega)]
theorem encT_at (f : Fb) (k p i : Nat) (h : i < k + p) : (strs (encT f k p i))[i]? = some (.string ByteArray.empty) := by simp [strs, encT, h]
theorem encT_next (f : Fb) (k p i : Nat) (h : i < k + p) : (strs (encT f k p i)).set i (.string (secF f k p i)) = strs (encT f k p (i + 1)) := by
  refine List.ext_getElem? fun q => ?_
  rw [List.getElem?_set]
  by_cases hq : q < k + p
  · by_cases e : i = q
    · subst e
      rw [if_pos rfl, if_pos (by simp [strs, encT]; exact h)]
      simp [strs, encT, h]
    · rw [if_neg e]
      by_cases h2 : q < i
      · simp [strs, encT, hq, h2, show q < i + 1 by omega]
      · simp [strs, encT, hq, h2, show ¬ q < i + 1 by omega]
  · rw [if_neg (by omega), List.getElem?_eq_none (by simp [strs, encT]; omega), List.getElem?_eq_none (by simp [strs, encT]; omega)]

set_option maxHeartbeats 1000000 in
theorem str_encode_any (c cc b sb k p s : Nat) (a : Option Addr) (cap : Nat) (f : Fb) (w : World) (h : Cdr w c cc b sb k p s) (hr : Lies w w.heap.size a (bytes (grid k f))) :
    Calls Tryz.prog 7 #[.pointer (some ⟨c, 0, none⟩), .slice a k cap] w fun e w' =>
      (∃ g, e = .returned (.tuple #[.slice (some ⟨g, 0, none⟩) (k + p) (k + p), .int .i64 0]) ∧ w.heap.size ≤ g ∧ Row w' g 9 (strs (encF f k p))) ∧ Below w.heap.size w w' := by
  obtain ⟨O, hO⟩ : ∃ O : List UInt8, O = List.replicate 60 0 := ⟨_, rfl⟩
  have HZ0 : Hid (∀ u, (zeroValue 48).run Tryz.prog u = .ok (.agg (bytes O).toArray) u) := Lib.hid (by rw [hO]; exact tag_zero)
  have LO : Hid ((bytes O).length = 60) := Lib.hid (by rw [hO, bytes_length, List.length_replicate])
  have HN := Lib.hid (str_none_any c cc b sb k p s w h)
  have HD : Hid (∀ u, Below w.heap.size w u → Calls Tryz.prog 21 #[.pointer (some ⟨c, 0, none⟩)] u fun e w' => e = .returned (.int .i64 (k : Int)) ∧ Below u.heap.size u w') := Lib.hid fun u hu => str_data_any c cc b sb k p s u (h.step hu)
  have HWI : Hid (∀ u, Below w.heap.size w u → Calls Tryz.prog 22 #[.pointer (some ⟨c, 0, none⟩)] u fun e w' => e = .returned (.int .i64 ((k + p : Nat) : Int)) ∧ Below u.heap.size u w') := Lib.hid fun u hu => str_wide_any c cc b sb k p s u (h.step hu)
  have HWH : Hid (∀ u, Below w.heap.size w u → Calls Tryz.prog 23 #[.pointer (some ⟨c, 0, none⟩), .slice a k cap] u fun e w' =>
      (∃ g c2 ys, e = .returned (.slice (some ⟨g, 0, none⟩) (k + p) c2) ∧ k + p ≤ c2 ∧ u.heap.size ≤ g ∧ Row w' g 48 (bytes (grid (k + p) (wholeF f k p)) ++ ys)) ∧ Below u.heap.size u w') := Lib.hid fun u hu => str_whole_any c cc b sb k p s a cap f u (h.step hu) ((hr.below hu).mono hu.size)
  have HC := Lib.hid h
  have HIS := Lib.hid info_str
  have HIS2 := Lib.hid info_str2
  have HZC : Hid ((Value.string ByteArray.empty).cells = #[.string ByteArray.empty]) := Lib.hid rfl
  have hk8 := h.k8
  have hp6 := h.p6
  have hk1 := h.k1
  have HMK : Hid (List.replicate (k + p) (.string ByteArray.empty) = strs (encT f k p 0)) := Lib.hid (encT_zero f k p).symm
  have HEF : Hid (encT f k p (k + p) = encF f k p) := Lib.hid (encT_full f k p)
  have HAT : Hid (∀ i, i < k + p → (strs (encT f k p i))[i]? = some (.string ByteArray.empty) ∧ (strs (encT f k p i)).set i (.string (secF f k p i)) = strs (encT f k p (i + 1))) := Lib.hid fun i hi => ⟨encT_at f k p i hi, encT_next f k p i hi⟩
  obtain ⟨n, hn⟩ : ∃ n, k + p = n := ⟨_, rfl⟩
  rw [hn] at HWI HWH HMK HEF HAT ⊢
  have HNM : Hid (n ≤ 1000000) := Lib.hid (by omega)
  have hni : (n : Int) ≤ 14 := by omega
  have hki : (k : Int) ≤ 8 := by omega
  have h2 : ((k : Int) == (k : Int)) = true := by simp
  clear hO h hr hk8 hp6 hk1 hn
  go_enter Tryz.func7, Tryz.ntmps7
  go_wp2_with (first
    | (go_at_call 20; (with_reducible refine HN.out.mono ?_); rintro e w1 ⟨rfl, b1⟩; have B1 := Lib.hid b1; clear b1)
    | (go_at_call 21; (with_reducible refine (HD.out w1 B1.out).mono ?_); rintro e w2 ⟨rfl, b2⟩; have B2 := Lib.hid (B1.out.next b2); clear b2)
    | (go_at_call 22; (with_reducible refine (HWI.out w2 B2.out).mono ?_); rintro e w3 ⟨rfl, b3⟩; have B3 := Lib.hid (B2.out.next b3); clear b3)
    | ((with_reducible refine wpMake1 32 9 (.string ByteArray.empty) n Tryz.underlying32 HIS.out HZC.out HIS2.out HNM.out ?_ ?_); rfl; intro w4 r4 b4 s4; rw [HMK.out] at r4; have R4 := Lib.hid r4; have B4 := Lib.hid (B3.out.next b4); clear r4 b4 s4)
    | (go_at_call 23; (with_reducible refine (HWH.out w4 B4.out).mono ?_); rintro e w5 ⟨⟨ga, c2, ys, rfl, q5, g5, r5⟩, b5⟩; have HC2 : ((n : Int) ≤ (c2 : Int)) := (by omega); have NEA : Hid (ga ≠ w3.heap.size) := Lib.hid (by have := R4.out.lt; omega); have RA := Lib.hid r5; have RS := Lib.hid (R4.out.step b5); have B5 := Lib.hid (B4.out.next b5); clear q5 g5 r5 b5))
  have HGS : Hid (w.heap.size ≤ w3.heap.size) := Lib.hid B3.out.size
  obtain ⟨gs, hgs⟩ : ∃ g, w3.heap.size = g := ⟨_, rfl⟩
  rw [hgs] at NEA RS HGS ⊢
  clear hgs R4 B1 B2 B3 B4 HN HD HWI HWH
  go_loopw [25] (fun x wr => ∃ i : Nat, i ≤ n ∧ x = .int .i64 i ∧ Row wr gs 9 (strs (encT f k p i)) ∧ Row wr ga 48 (bytes (grid n (wholeF f k p)) ++ ys) ∧ Below w.heap.size w wr) (fun x _ => n - (intOf x).toNat)
  case atStart => exact ⟨0, Nat.zero_le _, rfl, RS.out, RA.out, B5.out⟩
  case round =>
    clear RS RA B5
    obtain ⟨i, hi, rfl, hrs, hra, hbw⟩ := hrel
    by_cases hlt : i < n
    · have hii : (i : Int) < (n : Int) := by omega
      obtain ⟨HCI0, HNX0⟩ := HAT.out i hlt
      have HRG : Hid (wr.rangeAt ga (i * 60) (bytes (bkF (wholeF f k p) i))) := Lib.hid (by
        have := grid_range (w := wr) (bl := ga) (off := 0) (n := n) (f := wholeF f k p) (fun j u hj => by
          rw [Nat.zero_add, hra.cell, List.getElem?_append_left (List.getElem?_eq_some_iff.1 hj).1]
          exact hj) i hlt
        rwa [Nat.zero_add] at this)
      have hl60 := bkF_length (wholeF f k p) i
      have LM : Hid ((bytes (bkF (wholeF f k p) i)).length = 60) := Lib.hid (by rw [bytes_length, hl60])
      have HM1 : Hid ((bytes (bkF (wholeF f k p) i)).all (·.oneCell') = true) := Lib.hid (bytes_oneC _)
      have HSE0 : Hid (∀ wx, Below w.heap.size w wx → Calls Tryz.prog 24 #[.pointer (some ⟨sb, 0, none⟩), .agg (bytes (bkF (wholeF f k p) i)).toArray] wx fun e w' => e = .returned (.string (secF f k p i)) ∧ Below wx.heap.size wx w') := Lib.hid fun wx hb => seal_val _ _ wx (HC.out.step hb).smr hl60
      obtain ⟨M, hM⟩ : ∃ M, bytes (bkF (wholeF f k p) i) = M := ⟨_, rfl⟩
      obtain ⟨T, hT⟩ : ∃ T, secF f k p i = T := ⟨_, rfl⟩
      rw [hM] at HRG LM HM1 HSE0
      rw [hT] at HSE0 HNX0
      have HCI := Lib.hid HCI0
      have HNX := Lib.hid HNX0
      have HRS := Lib.hid hrs
      have HRA := Lib.hid hra
      have HBW := Lib.hid hbw
      clear hrs hra hbw hl60 hM hT HCI0 HNX0 hlt
      go_wp2_with (first
        | ((with_reducible refine wpLoadRK HRG.out 48 fits_block LM.out ?_ ?_); rfl)
        | ((with_reducible refine wpAllocK (w := wr) (bytes O) 48 HZ0.out ?_ ?_); rfl; intro u2 r2 b2 s2; have R2 := Lib.hid r2; have W2 := Lib.hid b2; clear r2 b2 s2)
        | ((with_reducible refine R2.out.wpStoreK 48 M fits_block LO.out LM.out HM1.out ?_ ?_); rfl; intro u3 r3 o3 s3; have RM3 := Lib.hid r3; have W3 : Hid (Below wr.heap.size wr u3) := Lib.hid (W2.out.trans (o3.below (Nat.le_refl _) W2.out.size)); clear r3 o3 s3))
      have RS3 := Lib.hid (HRS.out.step W3.out)
      have RA3 := Lib.hid (HRA.out.step W3.out)
      have B3 := Lib.hid (HBW.out.next W3.out)
      have C4 := Lib.hid ((HC.out.step B3.out).c4)
      have HLT := Lib.hid ((HC.out.step B3.out).lt)
      have HSE : Hid (∀ wx, Below u3.heap.size u3 wx → Calls Tryz.prog 24 #[.pointer (some ⟨sb, 0, none⟩), .agg M.toArray] wx fun e w' => e = .returned (.string T) ∧ Below wx.heap.size wx w') := Lib.hid fun wx hb => HSE0.out wx (B3.out.next hb)
      obtain ⟨gb, hgb⟩ : ∃ g, wr.heap.size = g := ⟨_, rfl⟩
      rw [hgb] at RM3 ⊢
      clear hgb R2 W2 HRS HRA HBW HRG HSE0
      refine region_store 9 [] [(0, 30), (1, 31), (2, 32), (3, 33), (4, 34), (5, 35), (6, 36), (7, 37), (8, 38)]
        (fun ii => [Is (.slice (some ⟨gs, 0, none⟩) n n), Is (.int .i64 (i : Int)), Is (.pointer (some ⟨c, 0, none⟩)), Is (.pointer (some ⟨c, 0, none⟩)), Is (.pointer (some ⟨c, 4, none⟩)), Is (.pointer (some ⟨sb, 0, none⟩)), Is (.agg (M).toArray), Is (.string T), Is (.pointer (some ⟨gs, i, none⟩))].getD ii (Is undef))
        (fun w' => Below u3.heap.size u3 w') (fun w' => Row w' gs 9 (strs (encT f k p (i + 1))) ∧ ∃ wm, Below u3.heap.size u3 wm ∧ Only gs wm w') (by kernel_rfl) (by kernel_rfl) (by kernel_rfl) (by kernel_rfl) (by decide) (by decide) (by kernel_rfl) rfl (by kernel_rfl) ?monoc ((Below.refl _ _).drew) ?stepc ?stepXc ?stepSc ?finc
      case monoc =>
        intro i
        match i with
        | 0 | 1 | 2 | 3 | 4 | 5 | 6 | 7 | 8 => exact Is.monot _
        | _ + 9 => exact Is.monot _
      case stepc =>
        refine List.forall_mem_cons.2 ⟨?cs0, List.forall_mem_cons.2 ⟨?cs1, List.forall_mem_cons.2 ⟨?cs2, List.forall_mem_cons.2 ⟨?cs3, List.forall_mem_cons.2 ⟨?cs4, List.forall_mem_cons.2 ⟨?cs5, List.forall_mem_cons.2 ⟨?cs6, List.forall_mem_cons.2 ⟨?cs7, List.forall_mem_cons.2 ⟨?cs8, List.forall_mem_nil _⟩⟩⟩⟩⟩⟩⟩⟩⟩
        case cs0 =>
          intro u wx hg hC
          clear hC
          refine wpOp_step rfl (fun K hK => ?_)
          simp only [puts, List.foldl]
          go_simp
          exact hK _ _ ⟨rfl, rfl, hg, Below.refl _ _⟩
        case cs1 =>
          intro u wx hg hC
          clear hC
          refine wpOp_step rfl (fun K hK => ?_)
          simp only [puts, List.foldl]
          go_simp
          exact hK _ _ ⟨rfl, rfl, hg, Below.refl _ _⟩
        case cs2 =>
          intro u wx hg hC
          clear hC
          refine wpOp_step rfl (fun K hK => ?_)
          simp only [puts, List.foldl]
          go_simp
          exact hK _ _ ⟨rfl, rfl, hg, Below.refl _ _⟩
        case cs3 =>
          intro u wx hg hC
          have hJ2 : u 2 = (.pointer (some ⟨c, 0, none⟩)) := hC.at 2 (by kernel_rfl)
          clear hC
          refine wpOp_step rfl (fun K hK => ?_)
          simp only [puts, List.foldl]
          go_simp
          exact hK _ _ ⟨rfl, rfl, hg, Below.refl _ _⟩
        case cs4 =>
          intro u wx hg hC
          have hJ3 : u 3 = (.pointer (some ⟨c, 0, none⟩)) := hC.at 3 (by kernel_rfl)
          clear hC
          refine wpOp_step rfl (fun K hK => ?_)
          simp only [puts, List.foldl]
          go_simp
          exact hK _ _ ⟨rfl, rfl, hg, Below.refl _ _⟩
        case cs5 =>
          intro u wx hg hC
          have hJ4 : u 4 = (.pointer (some ⟨c, 4, none⟩)) := hC.at 4 (by kernel_rfl)
          clear hC
          have hcl : wx.cell? ⟨c, 4, none⟩ = some (.pointer (some ⟨sb, 0, none⟩)) := (hg.cell (p := ⟨c, 4, none⟩) HLT.out).trans C4.out
          refine wpOp_step rfl (fun K hK => ?_)
          simp only [puts, List.foldl]
          go_simp
          exact hK _ _ ⟨rfl, rfl, hg, Below.refl _ _⟩
        case cs6 =>
          intro u wx hg hC
          clear hC
          generalize hA : puts [(0, 30), (1, 31), (2, 32), (3, 33), (4, 34), (5, 35), (6, 36), (7, 37), (8, 38)] _ u = A
          have hp : A.tmps.getD 8 undef = .pointer (some ⟨gb, 0, none⟩) := by rw [← hA]; exact (puts_get_out u _ _ 8 (by decide)).trans (by rfl)
          have hsz : 36 < A.tmps.size := by rw [← hA]; exact puts_room u (by kernel_rfl)
          refine wpOp_step rfl (fun K hK => ?_)
          clear hA
          exact opLoadK (φ := Is (.agg (M).toArray)) (RM3.out.step hg) _ fits_block LM.out 36 rfl hsz hK (.tmp 8) rfl hp rfl hg
        case cs7 =>
          intro u wx hg hC
          have hJ5 : u 5 = (.pointer (some ⟨sb, 0, none⟩)) := hC.at 5 (by kernel_rfl)
          have hJ6 : u 6 = (.agg (M).toArray) := hC.at 6 (by kernel_rfl)
          clear hC
          refine wpOp_step rfl (fun K hK => ?_)
          simp only [puts, List.foldl]
          go_simp
          refine (HSE.out wx hg).mono ?_
          rintro e w' ⟨rfl, hb'⟩
          exact hK _ _ ⟨rfl, rfl, hg.next hb', hb'⟩
        case cs8 =>
          intro u wx hg hC
          have hJ0 : u 0 = (.slice (some ⟨gs, 0, none⟩) n n) := hC.at 0 (by kernel_rfl)
          have hJ1 : u 1 = (.int .i64 (i : Int)) := hC.at 1 (by kernel_rfl)
          clear hC
          refine wpOp_step rfl (fun K hK => ?_)
          simp only [puts, List.foldl]
          go_simp
          exact hK _ _ ⟨rfl, rfl, hg, Below.refl _ _⟩
      case stepXc =>
        intro p hp hx
        cases hx
      case stepSc =>
        intro u w9 hbw9 hφ
        have hp9 : u 8 = .pointer (some ⟨gs, i, none⟩) := hφ (8, 38) (by decide) (by decide)
        have hv9 : u 7 = .string T := hφ (7, 37) (by decide) (by decide)
        clear hφ
        have RS9 := Lib.hid (RS3.out.step hbw9)
        have hfz := RS9.out.frozen i
        have hcc : w9.cell? ⟨gs, i, none⟩ = some (.string ByteArray.empty) := by rw [RS9.out.cell]; exact HCI.out
        have hrow : Row (w9.setCell ⟨gs, i, none⟩ (.string T)) gs 9 (strs (encT f k p (i + 1))) := by
          have := RS9.out.set i (.string T)
          rwa [HNX.out] at this
        have HB9 := Lib.hid hbw9
        clear hbw9
        refine wpOp_step rfl (fun K hK => ?_)
        simp only [puts, List.foldl]
        go_simp
        exact hK _ _ ⟨rfl, hrow, w9, HB9.out, (Only.refl gs w9).setCell ⟨gs, i, none⟩ _ (Or.inl rfl)⟩
      case finc =>
        rintro u w6 ⟨r6, wm, hbm, hom⟩ hφ
        clear hφ
        simp only [puts, List.foldl]
        go_simp
        have R6 := Lib.hid r6
        have RA6 : Hid (Row w6 ga 48 (bytes (grid n (wholeF f k p)) ++ ys)) := Lib.hid ((RA3.out.step hbm).only hom NEA.out)
        have B6 : Hid (Below w.heap.size w w6) := Lib.hid ((B3.out.next hbm).trans (hom.below HGS.out (B3.out.next hbm).size))
        clear r6 hbm hom
        go_wp2
        go_roundw
        case rel => exact ⟨i + 1, by omega, by go_num, R6.out, RA6.out, B6.out⟩
        case measure => simp [intOf]; omega
    · obtain rfl : i = n := by omega
      rw [HEF.out] at hrs
      have HRS := Lib.hid hrs
      have HBW := Lib.hid hbw
      clear hrs hra hbw
      go_wp2
      go_ret2
      exact ⟨⟨_, rfl, HGS.out, HRS.out⟩, HBW.out⟩
end Go.Proofs.YtnbjaijhdjneoaaGreat

namespace Go.Proofs.YtnbjaijhdjneoaaGreat
open Go.RowKit CrcMath GfMath PolyMath RsMath SolMath GeoMath
set_option linter.unusedVariables false
set_option maxRecDepth 100000

def nilFound : List Value := [.slice none 0 0, .slice none 0 0]
theorem found_zero : ∀ u, (zeroValue 40).run Tryz.prog u = .ok (.agg nilFound.toArray) u := fun u => by kernel_rfl
theorem found_fits : Fits Tryz.prog 40 2 := ⟨⟨_, Tryz.underlying40, rfl⟩, by kernel_rfl⟩
theorem found_built : Tryz.prog.built 40 [] = some nilFound.toArray := by kernel_rfl

theorem Lies.notIn {w : World} {B g : Nat} {t : TypeId} {a : Option Addr} {xs l : List Value} (h : Lies w B a xs) (hr : Row w g t l) (hne : ∀ (j : Nat) (v : Value), l[j]? = some v → ∀ u ∈ xs, u ≠ v) : ∀ x, a = some x → 0 < xs.length → x.block ≠ g := by
  intro x hx h0 he
  obtain ⟨b2, off, e, hlt, hc⟩ := h h0
  rw [hx] at e
  cases e
  have h1 := hc 0 xs[0] (by rw [List.getElem?_eq_getElem h0])
  rw [show b2 = g from he, hr.cell] at h1
  exact hne _ _ h1 _ (List.getElem_mem h0) rfl
/-- What Read tells of these sectors. -/
def ReadP (n p : Nat) (S : List (List UInt8)) (e : Ending) (w' : World) : Prop :=
  if okTo n p (seenF S) ((erasedF S n).map fun x : Nat => (x : Int)) 60 = true then
    ∃ g vs, e = .returned (.tuple #[.agg #[.slice (some ⟨g, 0, none⟩) n n, vs], .int .i64 0]) ∧ Row w' g 48 (bytes (grid n (mdF n p (seenF S) ((erasedF S n).map fun x : Nat => (x : Int))))) ∧
      IReads w' vs (unlF n (seenF S) (mdF n p (seenF S) ((erasedF S n).map fun x : Nat => (x : Int))) (erasedF S n))
  else e = .returned (.tuple #[.agg nilFound.toArray, .int .i64 8])

/-- The same, and the memory is new. -/
def ReadN (B n p : Nat) (S : List (List UInt8)) (e : Ending) (w' : World) : Prop :=
  if okTo n p (seenF S) ((erasedF S n).map fun x : Nat => (x : Int)) 60 = true then
    ∃ g vs, e = .returned (.tuple #[.agg #[.slice (some ⟨g, 0, none⟩) n n, vs], .int .i64 0]) ∧ (Row w' g 48 (bytes (grid n (mdF n p (seenF S) ((erasedF S n).map fun x : Nat => (x : Int))))) ∧ B ≤ g) ∧
      IReads w' vs (unlF n (seenF S) (mdF n p (seenF S) ((erasedF S n).map fun x : Nat => (x : Int))) (erasedF S n)) ∧ (∀ q, vs.ownBlock = some q → B ≤ q)
  else e = .returned (.tuple #[.agg nilFound.toArray, .int .i64 8])
theorem ReadN.old {B n p : Nat} {S : List (List UInt8)} {e : Ending} {w' : World} (h : ReadN B n p S e w') : ReadP n p S e w' := by
  unfold ReadN at h
  unfold ReadP
  split
  · rw [if_pos (by assumption)] at h
    obtain ⟨g, vs, h1, ⟨h2, _⟩, h3, _⟩ := h
    exact ⟨g, vs, h1, h2, h3⟩
  · rw [if_neg (by assumption)] at h
    exact h

theorem str_read_bad (c cc b sb k p s : Nat) (a : Option Addr) (n cap : Nat) (w : World) (h : Cdr w c cc b sb k p s) (hn : n ≠ k + p) :
    Calls Tryz.prog 9 #[.pointer (some ⟨c, 0, none⟩), .slice a n cap] w fun e w' => e = .returned (.tuple #[.agg nilFound.toArray, .int .i64 1]) ∧ Below w.heap.size w w' := by
  have HN : Hid (∀ u, Below w.heap.size w u → Calls Tryz.prog 20 #[.pointer (some ⟨c, 0, none⟩)] u fun e w' => e = .returned (.bool false) ∧ Below u.heap.size u w') := Lib.hid fun u hu => str_none_any c cc b sb k p s u (h.step hu)
  have HW : Hid (∀ u, Below w.heap.size w u → Calls Tryz.prog 22 #[.pointer (some ⟨c, 0, none⟩)] u fun e w' => e = .returned (.int .i64 ((k + p : Nat) : Int)) ∧ Below u.heap.size u w') := Lib.hid fun u hu => str_wide_any c cc b sb k p s u (h.step hu)
  have HZ := Lib.hid found_zero
  have HBU := Lib.hid found_built
  have HL : Hid (nilFound.length = 2) := Lib.hid rfl
  have H1 : Hid (nilFound.all (·.oneCell') = true) := Lib.hid rfl
  obtain ⟨m, hm⟩ : ∃ m, k + p = m := ⟨_, rfl⟩
  rw [hm] at hn HW
  have h1 : ((n : Int) != (m : Int)) = true := by simp; omega
  have h2 : ((n : Int) == (m : Int)) = false := by simp; omega
  have h3 : ¬ (n : Int) = (m : Int) := by omega
  generalize nilFound = NF at *
  clear h hn hm
  go_enter Tryz.func9, Tryz.ntmps9
  go_wp2_with (first
    | ((with_reducible refine wpAllocK (w := w) NF 40 HZ.out ?_ ?_); rfl; intro u1 r1 b1 s1; have R1 := Lib.hid r1; have B1 := Lib.hid b1; clear r1 b1 s1)
    | (go_at_call 20; (with_reducible refine (HN.out u1 B1.out).mono ?_); rintro e u2 ⟨rfl, b2⟩; have R2 := Lib.hid (R1.out.step b2); have B2 := Lib.hid (B1.out.next b2); clear b2)
    | (go_at_call 22; (with_reducible refine (HW.out u2 B2.out).mono ?_); rintro e u3 ⟨rfl, b3⟩; have R3 := Lib.hid (R2.out.step b3); have B3 := Lib.hid (B2.out.next b3); clear b3)
    | ((with_reducible refine wpBuildZeroK NF 40 HBU.out ?_ ?_); rfl)
    | ((with_reducible refine R3.out.wpStoreK 40 NF found_fits HL.out HL.out H1.out ?_ ?_); rfl; intro u4 r4 o4 s4; have R4 := Lib.hid r4; have B4 : Hid (Below w.heap.size w u4) := Lib.hid (B3.out.trans (o4.below (Nat.le_refl _) B3.out.size)); clear r4 o4 s4))
  exact bodyPost_ret (R4.out.resultT rfl _ _ rfl Tryz.underlying40 rfl (by rw [HL.out]; exact found_fits.size)) rfl ⟨rfl, B4.out⟩

set_option maxHeartbeats 1000000 in
theorem str_read_new (c cc b sb k p s : Nat) (a : Option Addr) (cap n : Nat) (L : List ByteArray) (w : World) (h : Cdr w c cc b sb k p s) (hn : n = k + p) (hL : L.length = n) (hLs : ∀ x ∈ L, x.size ≤ 140737488355328) (hr : Lies w w.heap.size a (strs L)) :
    Calls Tryz.prog 9 #[.pointer (some ⟨c, 0, none⟩), .slice a n cap] w fun e w' => ReadN w.heap.size n p (tl L) e w' ∧ Below w.heap.size w w' := by
  have HN : Hid (∀ u, Below w.heap.size w u → Calls Tryz.prog 20 #[.pointer (some ⟨c, 0, none⟩)] u fun e w' => e = .returned (.bool false) ∧ Below u.heap.size u w') := Lib.hid fun u hu => str_none_any c cc b sb k p s u (h.step hu)
  have HW : Hid (∀ u, Below w.heap.size w u → Calls Tryz.prog 22 #[.pointer (some ⟨c, 0, none⟩)] u fun e w' => e = .returned (.int .i64 (n : Int)) ∧ Below u.heap.size u w') := Lib.hid fun u hu => by rw [hn]; exact str_wide_any c cc b sb k p s u (h.step hu)
  have hn14 : n ≤ 14 := by have := h.k8; have := h.p6; omega
  have HOP : Hid (∀ u, Below w.heap.size w u → Calls Tryz.prog 25 #[.pointer (some ⟨c, 0, none⟩), .slice a n cap] u fun e w' =>
      (∃ g vs, e = .returned (.tuple #[.slice (some ⟨g, 0, none⟩) n n, vs]) ∧ u.heap.size ≤ g ∧ Row w' g 48 (bytes (grid n (seenF (tl L)))) ∧ IReads w' vs (erasedF (tl L) n)) ∧ Below u.heap.size u w') := Lib.hid fun u hu => str_open_any c cc b sb k p s a cap n L u (h.step hu) hL (by omega) hLs ((hr.below hu).mono hu.size)
  obtain ⟨S, hS⟩ : ∃ S, tl L = S := ⟨_, rfl⟩
  rw [hS] at HOP ⊢
  have hEl := erasedF_le S n
  have hEn := erasedF_lt S n
  have HRP : Hid (∀ e w', (okTo n p (seenF S) ((erasedF S n).map fun x : Nat => (x : Int)) 60 = true → ∃ g vs, e = .returned (.tuple #[.agg #[.slice (some ⟨g, 0, none⟩) n n, vs], .int .i64 0]) ∧ (Row w' g 48 (bytes (grid n (mdF n p (seenF S) ((erasedF S n).map fun x : Nat => (x : Int))))) ∧ w.heap.size ≤ g) ∧
      IReads w' vs (unlF n (seenF S) (mdF n p (seenF S) ((erasedF S n).map fun x : Nat => (x : Int))) (erasedF S n)) ∧ (∀ q, vs.ownBlock = some q → w.heap.size ≤ q)) → (okTo n p (seenF S) ((erasedF S n).map fun x : Nat => (x : Int)) 60 = false → e = .returned (.tuple #[.agg nilFound.toArray, .int .i64 8])) → ReadN w.heap.size n p S e w') := Lib.hid fun e w' h1 h2 => by
    unfold ReadN
    cases ho : okTo n p (seenF S) ((erasedF S n).map fun x : Nat => (x : Int)) 60 with
    | true => rw [if_pos rfl]; exact h1 ho
    | false => rw [if_neg (by simp)]; exact h2 ho
  have HME0 : Hid (∀ u a2 c2 ea ecap, Below w.heap.size w u → Lies u u.heap.size a2 (bytes (grid n (seenF S))) → Lies u u.heap.size ea (nats (erasedF S n)) → Calls Tryz.prog 26 #[.pointer (some ⟨c, 0, none⟩), .slice a2 n c2, .slice ea (erasedF S n).length ecap] u fun e w' => MendP u.heap.size n p (seenF S) ((erasedF S n).map fun x : Nat => (x : Int)) e w' ∧ Below u.heap.size u w') := Lib.hid fun u a2 c2 ea ecap h1 h2 h3 => str_mend_any c cc b sb k p s a2 c2 n (seenF S) ea ecap (erasedF S n) u (h.step h1) hn h2 h3 (by omega) hEn
  have HUN0 : Hid (∀ u a1 c1 a2 c2 ea ecap, ∀ F : Fb, Lies u u.heap.size a1 (bytes (grid n (seenF S))) → Lies u u.heap.size a2 (bytes (grid n F)) → Lies u u.heap.size ea (nats (erasedF S n)) → Calls Tryz.prog 27 #[.slice a1 n c1, .slice a2 n c2, .slice ea (erasedF S n).length ecap] u fun e w' => (∃ v, e = .returned v ∧ IReads w' v (unlF n (seenF S) F (erasedF S n)) ∧ (∀ q, v.ownBlock = some q → u.heap.size ≤ q)) ∧ Below u.heap.size u w') := Lib.hid fun u a1 c1 a2 c2 ea ecap F h1 h2 h3 => str_unlike_new a1 a2 c1 c2 n (seenF S) F ea ecap (erasedF S n) u (by omega) h1 h2 h3 (by omega)
  obtain ⟨E, hE⟩ : ∃ E, erasedF S n = E := ⟨_, rfl⟩
  rw [hE] at HOP HRP HME0 HUN0
  obtain ⟨er, her⟩ : ∃ er, E.map (fun x : Nat => (x : Int)) = er := ⟨_, rfl⟩
  rw [her] at HRP HME0
  obtain ⟨F0, hF0⟩ : ∃ F, seenF S = F := ⟨_, rfl⟩
  rw [hF0] at HOP HRP HME0 HUN0
  have HZ := Lib.hid found_zero
  have HBU := Lib.hid found_built
  have HL : Hid (nilFound.length = 2) := Lib.hid rfl
  have H1 : Hid (nilFound.all (·.oneCell') = true) := Lib.hid rfl
  have h2 : ((n : Int) == (n : Int)) = true := by simp
  have hni : (n : Int) ≤ 14 := by omega
  unfold MendP at HME0
  obtain ⟨ok, hok⟩ : ∃ ok, okTo n p F0 er 60 = ok := ⟨_, rfl⟩
  rw [hok] at HME0 HRP
  have HNI : Hid (∀ (j : Nat) (v : Value), nilFound[j]? = some v → ∀ l : List Nat, ∀ u ∈ nats l, u ≠ v) := Lib.hid fun j v hv l u hu e => by
    obtain ⟨y, _, rfl⟩ := List.mem_map.1 hu
    match j, hv with
    | 0, hv => simp [nilFound] at hv; rw [← hv] at e; cases e
    | 1, hv => simp [nilFound] at hv; rw [← hv] at e; cases e
    | _ + 2, hv => simp [nilFound] at hv
  generalize nilFound = NF at *
  clear h hn hL hLs hr hn14 hS hEl hEn hE her hF0 hok
  cases ok
  · have HRB : Hid (∀ w', ReadN w.heap.size n p S (.returned (.tuple #[.agg NF.toArray, .int .i64 8])) w') := Lib.hid fun w' => HRP.out _ w' (fun h => by cases h) fun _ => rfl
    clear HRP
    go_enter Tryz.func9, Tryz.ntmps9
    go_wp2_with (first
      | ((with_reducible refine wpAllocK (w := w) NF 40 HZ.out ?_ ?_); rfl; intro u1 r1 b1 s1; have R1 := Lib.hid r1; have B1 := Lib.hid b1; clear r1 b1 s1)
      | (go_at_call 20; (with_reducible refine (HN.out u1 B1.out).mono ?_); rintro e u2 ⟨rfl, b2⟩; have R2 := Lib.hid (R1.out.step b2); have B2 := Lib.hid (B1.out.next b2); clear b2)
      | (go_at_call 22; (with_reducible refine (HW.out u2 B2.out).mono ?_); rintro e u3 ⟨rfl, b3⟩; have R3 := Lib.hid (R2.out.step b3); have B3 := Lib.hid (B2.out.next b3); clear b3)
      | (go_at_call 25; (with_reducible refine (HOP.out u3 B3.out).mono ?_); rintro e u4 ⟨⟨g, vs, rfl, q4, r4, ea, ecap, rfl, i4, l4⟩, b4⟩; have R4 := Lib.hid (R3.out.step b4); have B4 := Lib.hid (B3.out.next b4); have S4 := Lib.hid (row_lies r4); have E4 := Lib.hid l4; clear q4 r4 i4 l4 b4)
      | (go_at_call 26; (with_reducible refine (HME0.out u4 _ _ _ _ B4.out S4.out E4.out).mono ?_); rintro e u5 ⟨h5, b5⟩; rw [if_neg (by simp)] at h5; subst h5; have R5 := Lib.hid (R4.out.step b5); have B5 := Lib.hid (B4.out.next b5); clear b5)
      | ((with_reducible refine wpBuildZeroK NF 40 HBU.out ?_ ?_); rfl)
      | ((with_reducible refine R5.out.wpStoreK 40 NF found_fits HL.out HL.out H1.out ?_ ?_); rfl; intro u6 r6 o6 s6; have R6 := Lib.hid r6; have B6 : Hid (Below w.heap.size w u6) := Lib.hid (B5.out.trans (o6.below (Nat.le_refl _) B5.out.size)); clear r6 o6 s6))
    exact bodyPost_ret (R6.out.resultT (q := 5) rfl _ _ rfl Tryz.underlying40 rfl (by rw [HL.out]; exact found_fits.size)) rfl ⟨HRB.out _, B6.out⟩
  · have HRB : Hid (∀ w' g vs, Row w' g 48 (bytes (grid n (mdF n p F0 er))) → w.heap.size ≤ g → IReads w' vs (unlF n F0 (mdF n p F0 er) E) → (∀ q, vs.ownBlock = some q → w.heap.size ≤ q) → ReadN w.heap.size n p S (.returned (.tuple #[.agg [.slice (some ⟨g, 0, none⟩) n n, vs].toArray, .int .i64 0])) w') := Lib.hid fun w' g vs h1 h1b h2 h2b => HRP.out _ w' (fun _ => ⟨g, vs, rfl, ⟨h1, h1b⟩, h2, h2b⟩) fun h => by cases h
    clear HRP
    generalize mdF n p F0 er = F1 at *
    go_enter Tryz.func9, Tryz.ntmps9
    go_wp2_with (first
      | ((with_reducible refine wpAllocK (w := w) NF 40 HZ.out ?_ ?_); rfl; intro u1 r1 b1 s1; have R1 := Lib.hid r1; have B1 := Lib.hid b1; have S1 := Lib.hid s1; clear r1 b1 s1)
      | (go_at_call 20; (with_reducible refine (HN.out u1 B1.out).mono ?_); rintro e u2 ⟨rfl, b2⟩; have R2 := Lib.hid (R1.out.step b2); have B2 := Lib.hid (B1.out.next b2); clear b2)
      | (go_at_call 22; (with_reducible refine (HW.out u2 B2.out).mono ?_); rintro e u3 ⟨rfl, b3⟩; have R3 := Lib.hid (R2.out.step b3); have B3 := Lib.hid (B2.out.next b3); clear b3)
      | (go_at_call 25; (with_reducible refine (HOP.out u3 B3.out).mono ?_); rintro e u4 ⟨⟨g, vs, rfl, q4, r4, ea, ecap, rfl, i4, l4⟩, b4⟩; have R4 := Lib.hid (R3.out.step b4); have B4 := Lib.hid (B3.out.next b4); have S4 := Lib.hid (row_lies r4); have E4 := Lib.hid l4; clear q4 r4 i4 l4 b4)
      | (go_at_call 26; (with_reducible refine (HME0.out u4 _ _ _ _ B4.out S4.out E4.out).mono ?_); rintro e u5 ⟨h5, b5⟩; (rw [if_pos trivial] at h5; obtain ⟨g5, rfl, q5, r5⟩ := h5; have R5 := Lib.hid (R4.out.step b5); have B5 := Lib.hid (B4.out.next b5); have S5 := Lib.hid (S4.out.step b5); have E5 := Lib.hid (E4.out.step b5); have M5 := Lib.hid r5; have NE5 : Hid (g5 ≠ w.heap.size) := Lib.hid (by have := R4.out.lt; omega); have G5 : Hid (w.heap.size ≤ g5) := Lib.hid (Nat.le_trans B4.out.size q5); clear q5 r5 b5))
      | (go_at_call 27; (with_reducible refine (HUN0.out u5 _ _ _ _ _ _ F1 S5.out (row_lies M5.out) E5.out).mono ?_); (rintro e u6 ⟨⟨v6, rfl, ⟨a6, c6, rfl, k6, l6⟩, n6⟩, b6⟩; have N6 : Hid (∀ q, (Value.slice a6 (unlF n F0 F1 E).length c6).ownBlock = some q → w.heap.size ≤ q) := Lib.hid fun q hq => Nat.le_trans B5.out.size (n6 q hq); have R6 := Lib.hid (R5.out.step b6); have B6 := Lib.hid (B5.out.next b6); have M6 := Lib.hid (M5.out.step b6); have K6 := Lib.hid k6; have L6 := Lib.hid l6; clear k6 l6 n6 b6))
      | ((with_reducible refine R6.out.wpStoreK 40 [.slice (some ⟨g5, 0, none⟩) n n, .slice a6 (unlF n F0 F1 E).length c6] found_fits HL.out rfl rfl ?_ ?_); rfl; intro u7 r7 o7 s7; have R7 := Lib.hid r7; have O7 := Lib.hid o7; have B7 : Hid (Below w.heap.size w u7) := Lib.hid (B6.out.trans (o7.below (Nat.le_refl _) B6.out.size)); clear r7 o7 s7))
    have M7 := Lib.hid (M6.out.only O7.out NE5.out)
    have HI : Hid (IReads u7 (.slice a6 (unlF n F0 F1 E).length c6) (unlF n F0 F1 E)) := Lib.hid ⟨a6, c6, rfl, K6.out, L6.out.onlyNe O7.out (L6.out.notIn R6.out fun j v hv u hu => HNI.out j v hv _ u hu)⟩
    exact bodyPost_ret (R7.out.resultT (q := 5) rfl _ _ rfl Tryz.underlying40 rfl found_fits.size) rfl ⟨HRB.out _ _ _ M7.out G5.out HI.out N6.out, B7.out⟩
theorem str_read_any (c cc b sb k p s : Nat) (a : Option Addr) (cap n : Nat) (L : List ByteArray) (w : World) (h : Cdr w c cc b sb k p s) (hn : n = k + p) (hL : L.length = n) (hLs : ∀ x ∈ L, x.size ≤ 140737488355328) (hr : Lies w w.heap.size a (strs L)) :
    Calls Tryz.prog 9 #[.pointer (some ⟨c, 0, none⟩), .slice a n cap] w fun e w' => ReadP n p (tl L) e w' ∧ Below w.heap.size w w' :=
  (str_read_new c cc b sb k p s a cap n L w h hn hL hLs hr).mono fun e w' ⟨h1, h2⟩ => ⟨h1.old, h2⟩
end Go.Proofs.YtnbjaijhdjneoaaGreat

namespace Go.Proofs.YtnbjaijhdjneoaaGreat
open Go.RowKit CrcMath GfMath PolyMath RsMath SolMath
set_option linter.unusedVariables false

theorem str_cnt_put {G : List Bool} {i : Nat} (hi : i < G.length) : cnt (G.set i true) ≤ cnt G + 1 := by
  cases h : gAt G i with
  | true => rw [set_self h]; omega
  | false => rw [cnt_set hi h]; omega
theorem str_cnt_set {n : Nat} : ∀ (er : List Int) (G : List Bool), G.length = n → inB n er = true → cnt (setG G er) ≤ cnt G + er.length
  | [], G, _, _ => by simp [setG]
  | a :: l, G, hG, hb => by
    have hb2 : inB n l = true := by
      unfold inB at hb ⊢
      rw [List.all_cons, Bool.and_eq_true] at hb
      exact hb.2
    have ha : a.toNat < n := by
      unfold inB at hb
      rw [List.all_cons, Bool.and_eq_true, Bool.and_eq_true, decide_eq_true_iff, decide_eq_true_iff] at hb
      omega
    have h1 := str_cnt_set l (G.set a.toNat true) (by rw [List.length_set]; exact hG) hb2
    have h2 := str_cnt_put (G := G) (i := a.toNat) (by omega)
    show cnt (setG (G.set a.toNat true) l) ≤ _
    rw [List.length_cons]
    omega
theorem cnt_noneG (n : Nat) : cnt (noneG n) = 0 := by unfold cnt noneG; simp [List.count_replicate]

/-- A sector whose tag is right is its block's. -/
theorem right_is_seal {l : List UInt8} (h : rightT l = true) : l = sealB (blk l) := by
  unfold rightT at h
  rw [Bool.and_eq_true, decide_eq_true_iff, decide_eq_true_iff] at h
  obtain ⟨h1, h2⟩ := h
  have h3 : ¬ l.length < 4 := by omega
  have h4 : l.drop (l.length - 4) = tailB (sumI (l.take (l.length - 4))) := by
    by_cases h5 : l.drop (l.length - 4) = tailB (sumI (l.take (l.length - 4)))
    · exact h5
    · rw [openR_sum h3 h5] at h1
      cases h1
  have e : blk l = l.take 60 := by unfold blk; rw [h2]; simp
  rw [e, sealB]
  rw [h2] at h4
  rw [← h4, List.take_append_drop]
theorem sealB_inj {a b : List UInt8} (ha : a.length = 60) (hb : b.length = 60) (h : sealB a = sealB b) : a = b := by
  have h1 := congrArg blk h
  rwa [blk_seal a ha, blk_seal b hb] at h1

/-- Which sectors aren't the blocks'. -/
def badL (S : List (List UInt8)) (F : Fb) (n : Nat) : List Nat := (List.range n).filter fun i => decide (S.getD i [] ≠ sealB (bkF F i))
theorem str_filter_or {α : Type} (P Q : α → Bool) : ∀ l : List α, (l.filter fun x => P x || Q x).length = (l.filter P).length + (l.filter fun x => !P x && Q x).length
  | [] => rfl
  | a :: l => by
    have ih := str_filter_or P Q l
    rw [List.filter_cons, List.filter_cons, List.filter_cons]
    cases P a <;> cases Q a <;> simp [ih] <;> omega
theorem bad_count (S : List (List UInt8)) (F : Fb) (n : Nat) : (badL S F n).length = (erasedF S n).length + ((List.range n).filter fun i => rightT (S.getD i []) && decide (S.getD i [] ≠ sealB (bkF F i))).length := by
  have h := str_filter_or (fun i => !rightT (S.getD i [])) (fun i => decide (S.getD i [] ≠ sealB (bkF F i))) (List.range n)
  have e : ((List.range n).filter fun i => !rightT (S.getD i []) || decide (S.getD i [] ≠ sealB (bkF F i))) = badL S F n := by
    unfold badL
    refine List.filter_congr fun i _ => ?_
    cases hr : rightT (S.getD i []) with
    | true => rfl
    | false =>
      have : S.getD i [] ≠ sealB (bkF F i) := fun e => by
        rw [e, right_seal _ (bkF_length _ _)] at hr
        cases hr
      rw [decide_eq_true this]; rfl
  rw [e] at h
  rw [h, erasedF]
  congr 2
  refine List.filter_congr fun i _ => ?_
  rw [Bool.not_not]
theorem gAt_mark {n : Nat} {er : List Nat} (h : ∀ x ∈ er, x < n) (j : Nat) : gAt (markE n (er.map fun x : Nat => (x : Int))) j = decide (j ∈ er) := by
  have hb : inB n (er.map fun x : Nat => (x : Int)) = true := by
    unfold inB
    rw [List.all_eq_true]
    intro x hx
    obtain ⟨y, hy, rfl⟩ := List.mem_map.1 hx
    have := h y hy
    simp
    omega
  have hn : gAt (noneG n) j = false := by
    unfold gAt noneG
    rw [List.getD_eq_getElem?_getD, List.getElem?_replicate]
    split <;> rfl
  unfold markE
  rw [gAt_setG n _ _ j (by simp [noneG]) hb, hn, Bool.false_or, Bool.eq_iff_iff, decide_eq_true_iff, List.any_eq_true]
  constructor
  · rintro ⟨x, hx, h2⟩
    obtain ⟨y, hy, rfl⟩ := List.mem_map.1 hx
    have : y = j := by simpa using h2
    rw [← this]; exact hy
  · intro hj
    exact ⟨(j : Int), List.mem_map.2 ⟨j, hj, rfl⟩, by simp⟩

theorem read_word {k p : Nat} {f : Fb} {S : List (List UInt8)} (hk : 1 ≤ k) (hp : 1 ≤ p) (hn : k + p ≤ 255)
    (hq : (erasedF S (k + p)).length + 2 * ((List.range (k + p)).filter fun i => rightT (S.getD i []) && decide (S.getD i [] ≠ sealB (bkF (wholeF f k p) i))).length ≤ p) (b : Nat) (hb : b < 60) :
    ∃ l, mendF masseyF (k + p) p (colF (seenF S) (k + p) b) ((erasedF S (k + p)).map fun x : Nat => (x : Int)) = .ok (colF (wholeF f k p) (k + p) b) l := by
  have hlt := erasedF_lt S (k + p)
  have hb2 : inB (k + p) ((erasedF S (k + p)).map fun x : Nat => (x : Int)) = true := by
    unfold inB
    rw [List.all_eq_true]
    intro x hx
    obtain ⟨y, hy, rfl⟩ := List.mem_map.1 hx
    have := hlt y hy
    simp
    omega
  refine ⟨_, SolMath.decode ⟨hn, colF_by _ _ _, colF_length _ _ _, colF_by _ _ _, colF_length _ _ _, allz_zero.1 (whole_right f k p b hb)⟩ hp hb2 ?_⟩
  have h1 := str_cnt_set ((erasedF S (k + p)).map fun x : Nat => (x : Int)) (noneG (k + p)) (by simp [noneG]) hb2
  rw [cnt_noneG, Nat.zero_add, List.length_map] at h1
  have h2 : ocnt (SolMath.oth (colF (seenF S) (k + p) b) (colF (wholeF f k p) (k + p) b) (markE (k + p) ((erasedF S (k + p)).map fun x : Nat => (x : Int)))) (k + p) ≤ ((List.range (k + p)).filter fun i => rightT (S.getD i []) && decide (S.getD i [] ≠ sealB (bkF (wholeF f k p) i))).length := by
    unfold ocnt
    refine filter_len_le _ _ _ fun i hi h => ?_
    have hin := List.mem_range.1 hi
    rw [decide_eq_true_iff] at h
    unfold SolMath.oth at h
    rw [gAt_mark hlt] at h
    by_cases hm : i ∈ erasedF S (k + p)
    · rw [decide_eq_true hm, if_pos rfl] at h
      exact absurd rfl h
    · rw [decide_eq_false hm, if_neg (by simp)] at h
      have hr : rightT (S.getD i []) = true := by
        cases hr : rightT (S.getD i []) with
        | true => rfl
        | false => exact absurd (List.mem_filter.2 ⟨hi, by rw [hr]; rfl⟩) hm
      rw [hr, Bool.true_and, decide_eq_true_iff]
      intro e
      unfold SolMath.er at h
      rw [colF_sq _ _ _ _ hin, colF_sq _ _ _ _ hin] at h
      have : seenF S i b = wholeF f k p i b := by
        have h5 : bkF (seenF S) i = bkF (wholeF f k p) i := by rw [bkF_seen, e, blk_seal _ (bkF_length _ _)]
        exact bkF_eq.1 h5 b hb
      rw [this, Nat.xor_self] at h
      exact h rfl
  unfold markE at h2 ⊢
  omega
/-- A stripe of which few sectors were turned is read as it was written. -/
theorem read_good {k p : Nat} {f : Fb} {S : List (List UInt8)} (hk : 1 ≤ k) (hp : 1 ≤ p) (hn : k + p ≤ 255)
    (hq : (∀ i, i < k + p → S.getD i [] ≠ sealB (bkF (wholeF f k p) i) → rightT (S.getD i []) = false) ∧ (badL S (wholeF f k p) (k + p)).length ≤ p ∨ (badL S (wholeF f k p) (k + p)).length ≤ p / 2) :
    okTo (k + p) p (seenF S) ((erasedF S (k + p)).map fun x : Nat => (x : Int)) 60 = true ∧
    grid (k + p) (mdF (k + p) p (seenF S) ((erasedF S (k + p)).map fun x : Nat => (x : Int))) = grid (k + p) (wholeF f k p) ∧
    unlF (k + p) (seenF S) (mdF (k + p) p (seenF S) ((erasedF S (k + p)).map fun x : Nat => (x : Int))) (erasedF S (k + p)) = badL S (wholeF f k p) (k + p) := by
  have hc := bad_count S (wholeF f k p) (k + p)
  have hw := read_word (S := S) (f := f) hk hp hn (by
    rcases hq with ⟨h1, h2⟩ | h
    · have h0 : ((List.range (k + p)).filter fun i => rightT (S.getD i []) && decide (S.getD i [] ≠ sealB (bkF (wholeF f k p) i))) = [] := by
        rw [List.filter_eq_nil_iff]
        intro i hi h
        rw [Bool.and_eq_true, decide_eq_true_iff] at h
        rw [h1 i (List.mem_range.1 hi) h.2] at h
        cases h.1
      rw [h0] at hc ⊢
      simp at hc ⊢
      omega
    · omega)
  have hmd : ∀ i, i < k + p → ∀ b, b < 60 → mdF (k + p) p (seenF S) ((erasedF S (k + p)).map fun x : Nat => (x : Int)) i b = wholeF f k p i b := fun i hi b hb => by
    obtain ⟨l, hl⟩ := hw b hb
    rw [mdF, hl]
    show UInt8.ofNat (sq (colF (wholeF f k p) (k + p) b) i) = _
    rw [colF_sq _ _ _ _ hi, toNat_ofNat']
  refine ⟨?_, grid_congr hmd, ?_⟩
  · unfold okTo
    rw [List.all_eq_true]
    intro b hb
    obtain ⟨l, hl⟩ := hw b (List.mem_range.1 hb)
    rw [okAt, hl]
  · unfold unlF badL
    refine List.filter_congr fun i hi => ?_
    have hin := List.mem_range.1 hi
    have e : bkF (mdF (k + p) p (seenF S) ((erasedF S (k + p)).map fun x : Nat => (x : Int))) i = bkF (wholeF f k p) i := bkF_eq.2 fun b hb => hmd i hin b hb
    rw [e, bkF_seen]
    have hm : (i ∈ erasedF S (k + p)) ↔ rightT (S.getD i []) = false := by
      unfold erasedF
      rw [List.mem_filter]
      constructor
      · rintro ⟨_, h⟩; simpa using h
      · intro h; exact ⟨hi, by rw [h]; rfl⟩
    rw [Bool.eq_iff_iff, Bool.or_eq_true, decide_eq_true_iff, decide_eq_true_iff, decide_eq_true_iff, hm]
    constructor
    · rintro (h | h) e2
      · rw [e2, blk_seal _ (bkF_length _ _)] at h
        exact h rfl
      · rw [e2, right_seal _ (bkF_length _ _)] at h
        cases h
    · intro h
      by_cases hr : rightT (S.getD i []) = true
      · left
        intro e2
        have := right_is_seal hr
        rw [e2] at this
        exact h this
      · right; simpa using hr
end Go.Proofs.YtnbjaijhdjneoaaGreat

namespace Go.Proofs.YtnbjaijhdjneoaaGreat
open Go.RowKit
section
variable {P : Program}
def buildSOf (o : Oper) (a : Act) : Option (TypeId × Nat × List (Nat × Value)) := match o.guard, o.op with | none, .buildSlice t n parts => some (t, n, parts.toList.map fun (i, x) => (i, a.eval x)) | _, _ => none
theorem wpBuildBK {ops : Array Oper} {rest : List Oper} {o : Oper} {a : Act} {w : World} {Q : Exit → Act → World → Prop} (vs : List (List Value)) (s : Nat) (T e : TypeId) (hT : P.underlying T = some (.slice e)) (hsz : (P.info? e).map (fun i => (i.size, i.zero.isSome)) = some (s, true))
    (hs : 0 < s) (hv : ∀ l ∈ vs, l.length = s) (hpos : 0 < vs.length) (hsm : vs.length * s ≤ 2 ^ 24)
    (ho : buildSOf o a = some (T, vs.length, (vs.zipIdx 0).map fun x => (x.2, .agg x.1.toArray)))
    (k : ∀ w', Row w' w.heap.size e vs.flatten → Below w.heap.size w w' → w'.heap.size = w.heap.size + 1 → wpList P ops Q rest (a.put o.dst (.slice (some ⟨w.heap.size, 0, none⟩) vs.length vs.length)) w') : wpList P ops Q (o :: rest) a w := by
  unfold buildSOf at ho
  split at ho
  · rename_i t n parts hg hop
    simp only [Option.some.injEq, Prod.mk.injEq] at ho
    obtain ⟨rfl, rfl, hp⟩ := ho
    cases hie : P.info? e with
    | none => simp [hie] at hsz
    | some ie =>
      simp only [hie, Option.map_some, Option.some.injEq, Prod.mk.injEq] at hsz
      obtain ⟨z, hzz⟩ := Option.isSome_iff_exists.1 hsz.2
      have hpp := Nat.mul_pos hpos hs
      have e1 : ((vs.map fun l => Value.agg l.toArray).zipIdx 0).map (fun x => (x.2, x.1)) = (vs.zipIdx 0).map fun x => (x.2, Value.agg x.1.toArray) := by
        rw [List.zipIdx_map, List.map_map]; rfl
      have hf := Great.fill_whole hs (vs.map fun l => Value.agg l.toArray) ((Array.range (vs.length * s)).map (z.cells[· % z.cells.size]!)) (fun v hm => by
        obtain ⟨l, hl, rfl⟩ := List.mem_map.1 hm
        show l.toArray.size = s
        simpa using hv l hl) (by simp)
      rw [e1] at hf
      have e2 : (vs.map fun l => Value.agg l.toArray).flatMap (fun v => v.cells.toList) = vs.flatten := by
        rw [List.flatMap_map, List.flatten_eq_flatMap]
        rfl
      rw [e2] at hf
      refine wpList_buildSlice hg t e vs.length parts hop _ ie z hT hie hzz (by rw [hsz.1]; omega) (by rw [hsz.1]; omega) (by rw [hsz.1, Array.toList_map, hp]; exact hf) ?_
      exact k _ (Row.new w e vs.flatten) ((Below.refl _ _).alloc (Nat.le_refl _) _) (by simp)
  · cases ho
end
end Go.Proofs.YtnbjaijhdjneoaaGreat

namespace Go.Proofs.YtnbjaijhdjneoaaGreat
open Go.RowKit CrcMath GfMath PolyMath RsMath SolMath GeoMath
set_option linter.unusedVariables false
set_option maxRecDepth 100000

/-- A stripe of which few sectors were turned is read as it was written. -/
theorem str_read_good (c cc b sb k p s : Nat) (a : Option Addr) (cap n : Nat) (L : List ByteArray) (f : Fb) (w : World) (h : Cdr w c cc b sb k p s) (hn : n = k + p) (hL : L.length = n) (hLs : ∀ x ∈ L, x.size ≤ 140737488355328) (hr : Lies w w.heap.size a (strs L))
    (hq : (∀ i, i < n → (tl L).getD i [] ≠ sealB (bkF (wholeF f k p) i) → rightT ((tl L).getD i []) = false) ∧ (badL (tl L) (wholeF f k p) n).length ≤ p ∨ (badL (tl L) (wholeF f k p) n).length ≤ p / 2) :
    Calls Tryz.prog 9 #[.pointer (some ⟨c, 0, none⟩), .slice a n cap] w fun e w' =>
      (∃ g a2 c2, e = .returned (.tuple #[.agg #[.slice (some ⟨g, 0, none⟩) n n, .slice a2 (badL (tl L) (wholeF f k p) n).length c2], .int .i64 0]) ∧ Row w' g 48 (bytes (grid n (wholeF f k p))) ∧ (badL (tl L) (wholeF f k p) n).length ≤ c2 ∧
      Lies w' w'.heap.size a2 (nats (badL (tl L) (wholeF f k p) n))) ∧ Below w.heap.size w w' := by
  subst hn
  obtain ⟨h1, h2, h3⟩ := read_good (S := tl L) (f := f) h.k1 (by have := h.p2; omega) (by have := h.k8; have := h.p6; omega) hq
  refine (str_read_any c cc b sb k p s a cap (k + p) L w h rfl hL hLs hr).mono ?_
  rintro e w' ⟨h4, h5⟩
  unfold ReadP at h4
  rw [if_pos h1, h2, h3] at h4
  obtain ⟨g, vs, e1, e2, a2, c2, e3, e4, e5⟩ := h4
  subst e3
  exact ⟨⟨g, a2, c2, e1, e2, e4, e5⟩, h5⟩
theorem secF_size (f : Fb) (k p i : Nat) : (secF f k p i).size = 64 := by rw [secF, str_size, sealB_length, bkF_length]
theorem enc_sizes (f : Fb) (k p : Nat) : ∀ x ∈ encF f k p, x.size ≤ 140737488355328 := by
  intro x hx
  obtain ⟨i, _, rfl⟩ := List.mem_map.1 hx
  rw [secF_size]
  omega

theorem info_block3 : (Tryz.prog.info? 48).map (fun i => (i.size, i.zero.isSome)) = some (60, true) := by kernel_rfl
theorem info_str1 : (Tryz.prog.info? 9).map (·.size) = some 1 := by kernel_rfl
/-- The example's two sectors that were turned. -/
theorem awake_bad (f : Fb) (BL : ByteArray) (h : BL = str (List.replicate 64 255)) : (((encF f 2 2).set 0 BL).set 2 ByteArray.empty).length = 4 ∧ (∀ x ∈ ((encF f 2 2).set 0 BL).set 2 ByteArray.empty, x.size ≤ 140737488355328) ∧
    (∀ i, i < 4 → (tl (((encF f 2 2).set 0 BL).set 2 ByteArray.empty)).getD i [] ≠ sealB (bkF (wholeF f 2 2) i) → rightT ((tl (((encF f 2 2).set 0 BL).set 2 ByteArray.empty)).getD i []) = false) ∧ badL (tl (((encF f 2 2).set 0 BL).set 2 ByteArray.empty)) (wholeF f 2 2) 4 = [0, 2] := by
  have hE : encF f 2 2 = [secF f 2 2 0, secF f 2 2 1, secF f 2 2 2, secF f 2 2 3] := rfl
  have hS : tl (((encF f 2 2).set 0 BL).set 2 ByteArray.empty) = [List.replicate 64 255, sealB (bkF (wholeF f 2 2) 1), [], sealB (bkF (wholeF f 2 2) 3)] := by
    rw [hE, h]
    simp only [List.set_cons_zero, List.set_cons_succ, tl, List.map_cons, List.map_nil, secF, str_list]
    rfl
  have h0 : List.replicate 64 255 ≠ sealB (bkF (wholeF f 2 2) 0) := fun e => by
    have h1 := right_seal _ (bkF_length (wholeF f 2 2) 0)
    rw [← e, right_blank] at h1
    cases h1
  have h2 : ([] : List UInt8) ≠ sealB (bkF (wholeF f 2 2) 2) := fun e => by
    have h1 := congrArg List.length e
    rw [sealB_length] at h1
    simp at h1
  refine ⟨by rw [List.length_set, List.length_set, encF_length], ?_, ?_, ?_⟩
  · intro x hx
    rw [hE, h] at hx
    simp only [List.set_cons_zero, List.set_cons_succ, List.mem_cons, List.not_mem_nil, or_false] at hx
    rcases hx with rfl | rfl | rfl | rfl
    · rw [str_size, List.length_replicate]; omega
    · rw [secF_size]; omega
    · show 0 ≤ _; omega
    · rw [secF_size]; omega
  · intro i hi hne
    rw [hS] at hne ⊢
    have hi4 : i = 0 ∨ i = 1 ∨ i = 2 ∨ i = 3 := by omega
    rcases hi4 with e | e | e | e
    · rw [e]; exact right_blank
    · rw [e] at hne; exact absurd rfl hne
    · rw [e]; rfl
    · rw [e] at hne; exact absurd rfl hne
  · rw [hS]
    unfold badL
    simp only [List.range_succ, List.range_zero, List.nil_append, List.filter_append, List.filter_cons, List.filter_nil, List.getD_cons_zero, List.getD_cons_succ]
    rw [decide_eq_true h0, decide_eq_true h2]
    simp

set_option maxHeartbeats 2000000 in
theorem str_awake (w : World) : Calls Tryz.prog 4 #[] w fun e w' => e = .returned (.bool true) ∧ Below w.heap.size w w' := by
  obtain ⟨O, hO⟩ : ∃ O : List UInt8, O = List.replicate 60 0 := ⟨_, rfl⟩
  have HZ0 : Hid (∀ u, (zeroValue 48).run Tryz.prog u = .ok (.agg (bytes O).toArray) u) := Lib.hid (by rw [hO]; exact tag_zero)
  have LO : Hid ((bytes O).length = 60) := Lib.hid (by rw [hO, bytes_length, List.length_replicate])
  have HNW : Hid (Calls Tryz.prog 6 #[.agg #[.int .i64 2, .int .i64 2, .int .i64 1]] w fun e w' => (∃ c cc b sb, e = .returned (.tuple #[.pointer (some ⟨c, 0, none⟩), .int .i64 0]) ∧ Cdr w' c cc b sb 2 2 1) ∧ Below w.heap.size w w') := Lib.hid (str_new_any 2 2 1 w (by omega) (by omega) (by omega) (by omega) (by omega) (by omega))
  obtain ⟨A, hA⟩ : ∃ A, A = blk [97] := ⟨_, rfl⟩
  obtain ⟨B, hB⟩ : ∃ B, B = blk [98] := ⟨_, rfl⟩
  have LA : Hid (A.length = 60) := Lib.hid (by rw [hA, blk_length])
  have LB : Hid (B.length = 60) := Lib.hid (by rw [hB, blk_length])
  have LA2 : Hid ((bytes A).length = 60) := Lib.hid (by rw [bytes_length]; exact LA.out)
  have LB2 : Hid ((bytes B).length = 60) := Lib.hid (by rw [bytes_length]; exact LB.out)
  have HA1 : Hid ((bytes A).all (·.oneCell') = true) := Lib.hid (bytes_oneC A)
  have HB1 : Hid ((bytes B).all (·.oneCell') = true) := Lib.hid (bytes_oneC B)
  have HBA : Hid (∀ u, Calls Tryz.prog 12 #[.string { data := #[97] }] u fun e w' => e = .returned (.agg (bytes A).toArray) ∧ Below u.heap.size u w') := Lib.hid fun u => by rw [hA]; exact refBlock_any { data := #[97] } u (by decide)
  have HBB : Hid (∀ u, Calls Tryz.prog 12 #[.string { data := #[98] }] u fun e w' => e = .returned (.agg (bytes B).toArray) ∧ Below u.heap.size u w') := Lib.hid fun u => by rw [hB]; exact refBlock_any { data := #[98] } u (by decide)
  obtain ⟨MA, hMA⟩ : ∃ M, M = bytes A := ⟨_, rfl⟩
  obtain ⟨MB, hMB⟩ : ∃ M, M = bytes B := ⟨_, rfl⟩
  rw [← hMA] at LA2 HA1 HBA
  rw [← hMB] at LB2 HB1 HBB
  have HMA := Lib.hid hMA
  have HMB := Lib.hid hMB
  have HIB := Lib.hid info_block3
  have HP0 : Hid (0 < 60) := Lib.hid (by omega)
  have HVS : Hid (∀ l ∈ [MA, MB], l.length = 60) := Lib.hid fun l hl => by
    rcases List.mem_cons.1 hl with rfl | hl
    · exact LA2.out
    · rcases List.mem_cons.1 hl with rfl | hl
      · exact LB2.out
      · cases hl
  have HVL : Hid (0 < [MA, MB].length) := Lib.hid (by show 0 < 2; omega)
  have HVM : Hid ([MA, MB].length * 60 ≤ 2 ^ 24) := Lib.hid (by show 2 * 60 ≤ 2 ^ 24; omega)
  have hfl : [MA, MB].flatten = bytes (grid 2 (ofL [A, B])) := by
    have hgo := grid_of [A, B] (fun x hx => by
      rcases List.mem_cons.1 hx with rfl | hx
      · exact LA.out
      · rcases List.mem_cons.1 hx with rfl | hx
        · exact LB.out
        · cases hx)
    have e2 : grid 2 (ofL [A, B]) = [A, B].flatten := hgo.symm
    rw [e2, hMA, hMB]
    simp [bytes]
  have HAB : Hid (bkF (wholeF (ofL [A, B]) 2 2) 0 = A ∧ bkF (wholeF (ofL [A, B]) 2 2) 1 = B) := Lib.hid (by
    have hall : ∀ x ∈ [A, B], x.length = 60 := fun x hx => by
      rcases List.mem_cons.1 hx with rfl | hx
      · exact LA.out
      · rcases List.mem_cons.1 hx with rfl | hx
        · exact LB.out
        · cases hx
    exact ⟨(bkF_eq.2 fun b _ => wholeT_data _ 2 2 60 0 b (by omega)).trans (bkF_ofL [A, B] hall 0 (by show 0 < 2; omega)), (bkF_eq.2 fun b _ => wholeT_data _ 2 2 60 1 b (by omega)).trans (bkF_ofL [A, B] hall 1 (by show 1 < 2; omega))⟩)
  obtain ⟨f, hf⟩ : ∃ f : Fb, f = ofL [A, B] := ⟨_, rfl⟩
  rw [← hf] at HAB hfl
  have HEN : Hid (∀ (u : World) (c cc b sb g : Nat), Cdr u c cc b sb 2 2 1 → Lies u u.heap.size (some ⟨g, 0, none⟩) [MA, MB].flatten → Calls Tryz.prog 7 #[.pointer (some ⟨c, 0, none⟩), .slice (some ⟨g, 0, none⟩) 2 2] u fun e w' =>
      (∃ g, e = .returned (.tuple #[.slice (some ⟨g, 0, none⟩) 4 4, .int .i64 0]) ∧ u.heap.size ≤ g ∧ Row w' g 9 (strs (encF f 2 2))) ∧ Below u.heap.size u w') := Lib.hid fun u c cc b sb g h1 h2 => by
    rw [hfl] at h2
    exact str_encode_any c cc b sb 2 2 1 (some ⟨g, 0, none⟩) 2 f u h1 h2
  obtain ⟨BL, hBL⟩ : ∃ B : ByteArray, B = str (List.replicate 64 255) := ⟨_, rfl⟩
  have HRP : Hid (∀ u, Calls Tryz.prog 13 #[.string { data := #[255] }, .int .i64 64] u fun e w' => e = .returned (.string BL) ∧ Below u.heap.size u w') := Lib.hid fun u => by rw [hBL]; exact tag_rep 255 64 u (by omega)
  have HIST := Lib.hid info_str1
  have H04 : Hid (0 < (strs (encF f 2 2)).length) := Lib.hid (by rw [strs_length, encF_length]; omega)
  have H24 : Hid (2 < ((strs (encF f 2 2)).set 0 (.string BL)).length) := Lib.hid (by rw [List.length_set, strs_length, encF_length]; omega)
  have HST : Hid (((strs (encF f 2 2)).set 0 (.string BL)).set 2 (.string { data := #[] }) = strs (((encF f 2 2).set 0 BL).set 2 ByteArray.empty)) := Lib.hid (by
    rw [strs, strs, List.map_set, List.map_set]; rfl)
  have hbd := awake_bad f BL hBL
  have HRD : Hid (∀ (u : World) (c cc b sb g : Nat), Cdr u c cc b sb 2 2 1 → Lies u u.heap.size (some ⟨g, 0, none⟩) (strs (((encF f 2 2).set 0 BL).set 2 ByteArray.empty)) → Calls Tryz.prog 9 #[.pointer (some ⟨c, 0, none⟩), .slice (some ⟨g, 0, none⟩) 4 4] u fun e w' =>
      (∃ g a2 c2, e = .returned (.tuple #[.agg #[.slice (some ⟨g, 0, none⟩) 4 4, .slice a2 2 c2], .int .i64 0]) ∧ Row w' g 48 (bytes (grid 4 (wholeF f 2 2))) ∧ 2 ≤ c2 ∧ Lies w' w'.heap.size a2 (nats [0, 2])) ∧ Below u.heap.size u w') := Lib.hid fun u c cc b sb g h1 h2 => by
    obtain ⟨h3, h4, h5, h6⟩ := hbd
    have := str_read_good c cc b sb 2 2 1 (some ⟨g, 0, none⟩) 4 4 _ f u h1 rfl h3 h4 h2 (Or.inl ⟨h5, by rw [h6]; simp⟩)
    rw [h6] at this
    exact this
  have HFZ := Lib.hid found_zero
  clear hO hA hB hMA hMB hfl hBL hbd
  go_enter Tryz.func4, Tryz.ntmps4
  go_wp2_with (first
    | (go_at_call 6; (with_reducible refine HNW.out.mono ?_); rintro e u1 ⟨⟨c, cc, b, sb, rfl, c1⟩, b1⟩; have C1 := Lib.hid c1; have B1 := Lib.hid b1; clear c1 b1)
    | (go_at_call 12; (with_reducible refine (HBA.out u1).mono ?_); rintro e u2 ⟨rfl, b2⟩; have C2 := Lib.hid (C1.out.step b2); have B2 := Lib.hid (B1.out.next b2); clear b2)
    | (go_at_call 12; (with_reducible refine (HBB.out u2).mono ?_); rintro e u3 ⟨rfl, b3⟩; have C3 := Lib.hid (C2.out.step b3); have B3 := Lib.hid (B2.out.next b3); clear b3)
    | ((with_reducible refine wpAllocK (w := u3) (bytes O) 48 HZ0.out ?_ ?_); rfl; intro u4 r4 b4 s4; have R4 := Lib.hid r4; have C4 := Lib.hid (C3.out.step b4); have B4 := Lib.hid (B3.out.next b4); have S4 := Lib.hid s4; have W4 := Lib.hid b4; clear r4 b4 s4)
    | ((with_reducible refine wpAllocK (w := u4) (bytes O) 48 HZ0.out ?_ ?_); rfl; intro u5 r5 b5 s5; have R5 := Lib.hid r5; have Q5 := Lib.hid (R4.out.step b5); have W5 : Hid (Below u3.heap.size u3 u5) := Lib.hid (W4.out.next b5); have C5 := Lib.hid (C4.out.step b5); have B5 := Lib.hid (B4.out.next b5); clear r5 b5 s5)
    | ((with_reducible refine Q5.out.wpStoreK 48 MA fits_block LO.out LA2.out HA1.out ?_ ?_); rfl; intro u6 r6 o6 s6; have Q6 := Lib.hid r6; have R6 := Lib.hid (R5.out.only o6 (by have := S4.out; omega)); have W6 : Hid (Below u3.heap.size u3 u6) := Lib.hid (W5.out.trans (o6.below (Nat.le_refl _) W5.out.size)); clear r6 o6 s6)
    | ((with_reducible refine R6.out.wpStoreK 48 MB fits_block LO.out LB2.out HB1.out ?_ ?_); rfl; intro u7 r7 o7 s7; have R7 := Lib.hid r7; have Q7 := Lib.hid (Q6.out.only o7 (by have := S4.out; omega)); have W7 : Hid (Below u3.heap.size u3 u7) := Lib.hid (W6.out.trans (o7.below W4.out.size W6.out.size)); have C7 := Lib.hid (C3.out.step W7.out); have B7 := Lib.hid (B3.out.next W7.out); clear r7 o7 s7)
    | ((with_reducible refine Q7.out.wpLoadK 48 fits_block LA2.out ?_ ?_); rfl)
    | ((with_reducible refine R7.out.wpLoadK 48 fits_block LB2.out ?_ ?_); rfl)
    | ((with_reducible refine wpBuildBK (w := u7) [MA, MB] 60 24 48 Tryz.underlying24 HIB.out HP0.out HVS.out HVL.out HVM.out ?_ ?_); rfl; intro u8 r8 b8 s8; have R8 := Lib.hid (row_lies r8); have P8 := Lib.hid (R7.out.step b8); have Q8 := Lib.hid (Q7.out.step b8); have C8 := Lib.hid (C7.out.step b8); have B8 := Lib.hid (B7.out.next b8); clear r8 b8 s8)
    | (go_at_call 7; (with_reducible refine (HEN.out u8 c cc b sb _ C8.out R8.out).mono ?_); rintro e u9 ⟨⟨gs, rfl, q9, r9⟩, b9⟩; have R9 := Lib.hid r9; have P9 := Lib.hid (P8.out.step b9); have Q9 := Lib.hid (Q8.out.step b9); have C9 := Lib.hid (C8.out.step b9); have B9 := Lib.hid (B8.out.next b9); have G9 := Lib.hid q9; have W9 := Lib.hid b9; clear q9 r9 b9)
    | (go_at_call 13; (with_reducible refine (HRP.out u9).mono ?_); rintro e u10 ⟨rfl, b10⟩; have R10 := Lib.hid (R9.out.step b10); have P10 := Lib.hid (P9.out.step b10); have Q10 := Lib.hid (Q9.out.step b10); have C10 := Lib.hid (C9.out.step b10); have B10 := Lib.hid (B9.out.next b10); have W10 : Hid (Below u8.heap.size u8 u10) := Lib.hid (W9.out.next b10); clear b10)
    | ((with_reducible refine R10.out.wpStore1K 0 9 (.string BL) HIST.out H04.out ?_ ?_ ?_ ?_); rfl; rfl; rfl; intro u11 r11 o11 s11; have R11 := Lib.hid r11; have O11 := Lib.hid o11; have S11 := Lib.hid s11; clear r11 o11 s11)
    | ((with_reducible refine R11.out.wpStore1K 2 9 (.string { data := #[] }) HIST.out H24.out ?_ ?_ ?_ ?_); rfl; rfl; rfl; intro u12 r12 o12 s12; rw [HST.out] at r12; have R12 := Lib.hid (row_lies r12); have W12 : Hid (Below u8.heap.size u8 u12) := Lib.hid (W10.out.trans ((O11.out.trans o12).below G9.out W10.out.size)); have C12 := Lib.hid (C8.out.step W12.out); have P12 := Lib.hid (P8.out.step W12.out); have Q12 := Lib.hid (Q8.out.step W12.out); have B12 := Lib.hid (B8.out.next W12.out); clear r12 o12 s12)
    | (go_at_call 9; (with_reducible refine (HRD.out u12 c cc b sb gs C12.out R12.out).mono ?_); rintro e u13 ⟨⟨g13, a13, c13, rfl, r13, q13, l13⟩, b13⟩; have Q2C := Lib.hid q13; have R13 := Lib.hid r13; have L13 := Lib.hid l13; have P13 := Lib.hid (P12.out.step b13); have Q13 := Lib.hid (Q12.out.step b13); have B13 := Lib.hid (B12.out.next b13); clear r13 q13 l13 b13)
    | ((with_reducible refine wpAllocK (w := u13) nilFound 40 HFZ.out ?_ ?_); rfl; intro u14 r14 b14 s14; have F14 := Lib.hid r14; have W14 := Lib.hid b14; clear r14 b14 s14)
    | ((with_reducible refine F14.out.wpStoreK 40 [.slice (some ⟨g13, 0, none⟩) 4 4, .slice a13 2 c13] found_fits rfl rfl rfl ?_ ?_); rfl; intro u15 r15 o15 s15; have F15 := Lib.hid r15; have W15 : Hid (Below u13.heap.size u13 u15) := Lib.hid (W14.out.trans (o15.below (Nat.le_refl _) W14.out.size)); clear r15 o15 s15))
  have R15 := Lib.hid (R13.out.step W15.out)
  have L15 := Lib.hid (L13.out.step W15.out)
  have P15 := Lib.hid (P13.out.step W15.out)
  have Q15 := Lib.hid (Q13.out.step W15.out)
  have B15 := Lib.hid (B13.out.next W15.out)
  obtain ⟨g3, hg3⟩ : ∃ g, u3.heap.size = g := ⟨_, rfl⟩
  obtain ⟨g4, hg4⟩ : ∃ g, u4.heap.size = g := ⟨_, rfl⟩
  obtain ⟨g7, hg7⟩ : ∃ g, u13.heap.size = g := ⟨_, rfl⟩
  rw [hg3] at Q15 ⊢
  rw [hg4] at P15 ⊢
  rw [hg7] at F15 ⊢
  have K0 : Hid (u15.cell? ⟨g7, 0, none⟩ = some (.slice (some ⟨g13, 0, none⟩) 4 4)) := Lib.hid (F15.out.cell 0)
  have K1 : Hid (u15.cell? ⟨g7, 1, none⟩ = some (.slice a13 2 c13)) := Lib.hid (F15.out.cell 1)
  have G7 := Lib.hid F15.out.lt
  have HRA : Hid (∀ wx, Below u15.heap.size u15 wx → wx.rangeAt g13 0 MA ∧ wx.rangeAt g13 60 MB) := Lib.hid fun wx hb => by
    have hr := R15.out.step hb
    have hcc : ∀ j u, (bytes (grid 4 (wholeF f 2 2)))[j]? = some u → wx.cell? ⟨g13, 0 + j, none⟩ = some u := fun j u hj => by rw [Nat.zero_add, hr.cell]; exact hj
    have h0 := grid_range hcc 0 (by omega)
    have h1 := grid_range hcc 1 (by omega)
    rw [HAB.out.1, ← HMA.out] at h0
    rw [HAB.out.2, ← HMB.out] at h1
    exact ⟨h0, h1⟩
  have HEA : Hid (∀ u : World, (Op.equalIn 10000 48 (.agg MA.toArray) (.agg MA.toArray)).run Tryz.prog u = .ok true u) := Lib.hid (by rw [HMA.out]; exact same_block A LA.out)
  have HEB : Hid (∀ u : World, (Op.equalIn 10000 48 (.agg MB.toArray) (.agg MB.toArray)).run Tryz.prog u = .ok true u) := Lib.hid (by rw [HMB.out]; exact same_block B LB.out)
  have HSM : Hid (∀ wx, Below u15.heap.size u15 wx → ∀ v, IRd [0, 2] v wx → Calls Tryz.prog 11 #[.slice a13 2 c13, v] wx fun e w' => e = .returned (.bool true) ∧ Below wx.heap.size wx w') := Lib.hid fun wx hb v hv =>
    (same_nats (.slice a13 2 c13) v [0, 2] [0, 2] wx (by simp) (by simp) ⟨a13, c13, rfl, Q2C.out, L15.out.step hb⟩ hv).mono fun e w' ⟨h1, h2⟩ => ⟨by rw [h1]; rfl, h2⟩
  clear hg3 hg4 hg7 R15 L15 F15 P13 Q13 P12 Q12 C12 R12 W12 B12 C8 C9 C10 HRD HRP HEN HNW HZ0 HBA HBB HVS HAB HFZ
  refine region_invX [(0, 48), (1, 49), (2, 50), (3, 51), (4, 52), (5, 53), (6, 54), (7, 55), (8, 56), (9, 57), (10, 58), (11, 59), (12, 60), (13, 61), (14, 62), (15, 63), (16, 64), (17, 65), (18, 66), (19, 67), (20, 68), (21, 69), (22, 70), (23, 71), (24, 72), (25, 73), (26, 74), (27, 75), (28, 76), (29, 77), (30, 0)]
    (fun ii => [Is (.int .i64 0), Is (.bool true), Is (.bool true), Is (.pointer (some ⟨g7, 0, none⟩)), Is (.slice (some ⟨g13, 0, none⟩) 4 4), Is (.int .i64 4), Is (.bool true), Is (.bool true), Is (.bool true), Is (.pointer (some ⟨g7, 0, none⟩)), Is (.slice (some ⟨g13, 0, none⟩) 4 4), Is (.pointer (some ⟨g13, 0, none⟩)), Is (.agg (MA).toArray), Is (.agg (MA).toArray), Is (.bool true), Is (.bool true), Is (.bool true), Is (.pointer (some ⟨g7, 0, none⟩)), Is (.slice (some ⟨g13, 0, none⟩) 4 4), Is (.pointer (some ⟨g13, 60, none⟩)), Is (.agg (MB).toArray), Is (.agg (MB).toArray), Is (.bool true), Is (.bool true), Is (.bool true), Is (.pointer (some ⟨g7, 1, none⟩)), Is (.slice a13 2 c13), IRd [0, 2], Is (.bool true), Is (.bool true), Is (.bool true)].getD ii (Is undef))
    (fun w' => Below u15.heap.size u15 w') (by kernel_rfl) (by kernel_rfl) (by decide) (by decide) (by kernel_rfl) rfl ?monoa ((Below.refl _ _).drew) ?stepa ?fina
  case monoa =>
    intro i
    match i with
    | 0 | 1 | 2 | 3 | 4 | 5 | 6 | 7 | 8 | 9 | 10 | 11 | 12 | 13 | 14 | 15 | 16 | 17 | 18 | 19 | 20 | 21 | 22 | 23 | 24 | 25 | 26 | 28 | 29 | 30 => exact Is.monot _
    | 27 => exact IRd.monot _
    | _ + 31 => exact Is.monot _
  case stepa =>
    refine List.forall_mem_cons.2 ⟨?as0, List.forall_mem_cons.2 ⟨?as1, List.forall_mem_cons.2 ⟨?as2, List.forall_mem_cons.2 ⟨?as3, List.forall_mem_cons.2 ⟨?as4, List.forall_mem_cons.2 ⟨?as5, List.forall_mem_cons.2 ⟨?as6, List.forall_mem_cons.2 ⟨?as7, List.forall_mem_cons.2 ⟨?as8, List.forall_mem_cons.2 ⟨?as9, List.forall_mem_cons.2 ⟨?as10, List.forall_mem_cons.2 ⟨?as11, List.forall_mem_cons.2 ⟨?as12, List.forall_mem_cons.2 ⟨?as13, List.forall_mem_cons.2 ⟨?as14, List.forall_mem_cons.2 ⟨?as15, List.forall_mem_cons.2 ⟨?as16, List.forall_mem_cons.2 ⟨?as17, List.forall_mem_cons.2 ⟨?as18, List.forall_mem_cons.2 ⟨?as19, List.forall_mem_cons.2 ⟨?as20, List.forall_mem_cons.2 ⟨?as21, List.forall_mem_cons.2 ⟨?as22, List.forall_mem_cons.2 ⟨?as23, List.forall_mem_cons.2 ⟨?as24, List.forall_mem_cons.2 ⟨?as25, List.forall_mem_cons.2 ⟨?as26, List.forall_mem_cons.2 ⟨?as27, List.forall_mem_cons.2 ⟨?as28, List.forall_mem_cons.2 ⟨?as29, List.forall_mem_cons.2 ⟨?as30, List.forall_mem_nil _⟩⟩⟩⟩⟩⟩⟩⟩⟩⟩⟩⟩⟩⟩⟩⟩⟩⟩⟩⟩⟩⟩⟩⟩⟩⟩⟩⟩⟩⟩⟩
    case as0 =>
      intro u wx hg hC
      clear hC
      refine wpOp_step rfl (fun K hK => ?_)
      simp only [puts, List.foldl]
      go_simp
      exact hK _ _ ⟨rfl, rfl, hg, Below.refl _ _⟩
    case as1 =>
      intro u wx hg hC
      have hJ0 : u 0 = (.int .i64 0) := hC.at 0 (by kernel_rfl)
      clear hC
      refine wpOp_step rfl (fun K hK => ?_)
      simp only [puts, List.foldl]
      go_simp
      exact hK _ _ ⟨rfl, rfl, hg, Below.refl _ _⟩
    case as2 =>
      intro u wx hg hC
      have hJ1 : u 1 = (.bool true) := hC.at 1 (by kernel_rfl)
      clear hC
      refine wpOp_step rfl (fun K hK => ?_)
      simp only [puts, List.foldl]
      go_simp
      exact hK _ _ ⟨rfl, rfl, hg, Below.refl _ _⟩
    case as3 =>
      intro u wx hg hC
      have hJ2 : u 2 = (.bool true) := hC.at 2 (by kernel_rfl)
      clear hC
      generalize hA : puts [(0, 48), (1, 49), (2, 50), (3, 51), (4, 52), (5, 53), (6, 54), (7, 55), (8, 56), (9, 57), (10, 58), (11, 59), (12, 60), (13, 61), (14, 62), (15, 63), (16, 64), (17, 65), (18, 66), (19, 67), (20, 68), (21, 69), (22, 70), (23, 71), (24, 72), (25, 73), (26, 74), (27, 75), (28, 76), (29, 77), (30, 0)] _ u = A
      have hgv : A.tmps.getD 50 undef = .bool true := by rw [← hA]; exact (puts_get u 2 50 _ _ (by decide) (by decide) (by kernel_rfl)).trans hJ2
      have hgs : 50 < A.tmps.size := by rw [← hA]; exact puts_room u (by kernel_rfl)
      refine wpOp_guard rfl 2 50 true rfl rfl hgs hgv (fun K hK => ?_)
      subst hA
      simp only [puts, List.foldl]
      go_simp
      exact hK _ _ ⟨rfl, rfl, hg, Below.refl _ _⟩
    case as4 =>
      intro u wx hg hC
      have hJ2 : u 2 = (.bool true) := hC.at 2 (by kernel_rfl)
      have hJ3 : u 3 = (.pointer (some ⟨g7, 0, none⟩)) := hC.at 3 (by kernel_rfl)
      clear hC
      have hcl : wx.cell? ⟨g7, 0, none⟩ = some (.slice (some ⟨g13, 0, none⟩) 4 4) := (hg.cell (p := ⟨g7, 0, none⟩) G7.out).trans K0.out
      generalize hA : puts [(0, 48), (1, 49), (2, 50), (3, 51), (4, 52), (5, 53), (6, 54), (7, 55), (8, 56), (9, 57), (10, 58), (11, 59), (12, 60), (13, 61), (14, 62), (15, 63), (16, 64), (17, 65), (18, 66), (19, 67), (20, 68), (21, 69), (22, 70), (23, 71), (24, 72), (25, 73), (26, 74), (27, 75), (28, 76), (29, 77), (30, 0)] _ u = A
      have hgv : A.tmps.getD 50 undef = .bool true := by rw [← hA]; exact (puts_get u 2 50 _ _ (by decide) (by decide) (by kernel_rfl)).trans hJ2
      have hgs : 50 < A.tmps.size := by rw [← hA]; exact puts_room u (by kernel_rfl)
      refine wpOp_guard rfl 2 50 true rfl rfl hgs hgv (fun K hK => ?_)
      subst hA
      simp only [puts, List.foldl]
      go_simp
      exact hK _ _ ⟨rfl, rfl, hg, Below.refl _ _⟩
    case as5 =>
      intro u wx hg hC
      have hJ2 : u 2 = (.bool true) := hC.at 2 (by kernel_rfl)
      have hJ4 : u 4 = (.slice (some ⟨g13, 0, none⟩) 4 4) := hC.at 4 (by kernel_rfl)
      clear hC
      generalize hA : puts [(0, 48), (1, 49), (2, 50), (3, 51), (4, 52), (5, 53), (6, 54), (7, 55), (8, 56), (9, 57), (10, 58), (11, 59), (12, 60), (13, 61), (14, 62), (15, 63), (16, 64), (17, 65), (18, 66), (19, 67), (20, 68), (21, 69), (22, 70), (23, 71), (24, 72), (25, 73), (26, 74), (27, 75), (28, 76), (29, 77), (30, 0)] _ u = A
      have hgv : A.tmps.getD 50 undef = .bool true := by rw [← hA]; exact (puts_get u 2 50 _ _ (by decide) (by decide) (by kernel_rfl)).trans hJ2
      have hgs : 50 < A.tmps.size := by rw [← hA]; exact puts_room u (by kernel_rfl)
      refine wpOp_guard rfl 2 50 true rfl rfl hgs hgv (fun K hK => ?_)
      subst hA
      simp only [puts, List.foldl]
      go_simp
      exact hK _ _ ⟨rfl, rfl, hg, Below.refl _ _⟩
    case as6 =>
      intro u wx hg hC
      have hJ2 : u 2 = (.bool true) := hC.at 2 (by kernel_rfl)
      have hJ5 : u 5 = (.int .i64 4) := hC.at 5 (by kernel_rfl)
      clear hC
      generalize hA : puts [(0, 48), (1, 49), (2, 50), (3, 51), (4, 52), (5, 53), (6, 54), (7, 55), (8, 56), (9, 57), (10, 58), (11, 59), (12, 60), (13, 61), (14, 62), (15, 63), (16, 64), (17, 65), (18, 66), (19, 67), (20, 68), (21, 69), (22, 70), (23, 71), (24, 72), (25, 73), (26, 74), (27, 75), (28, 76), (29, 77), (30, 0)] _ u = A
      have hgv : A.tmps.getD 50 undef = .bool true := by rw [← hA]; exact (puts_get u 2 50 _ _ (by decide) (by decide) (by kernel_rfl)).trans hJ2
      have hgs : 50 < A.tmps.size := by rw [← hA]; exact puts_room u (by kernel_rfl)
      refine wpOp_guard rfl 2 50 true rfl rfl hgs hgv (fun K hK => ?_)
      subst hA
      simp only [puts, List.foldl]
      go_simp
      exact hK _ _ ⟨rfl, rfl, hg, Below.refl _ _⟩
    case as7 =>
      intro u wx hg hC
      have hJ2 : u 2 = (.bool true) := hC.at 2 (by kernel_rfl)
      have hJ6 : u 6 = (.bool true) := hC.at 6 (by kernel_rfl)
      clear hC
      refine wpOp_step rfl (fun K hK => ?_)
      simp only [puts, List.foldl]
      go_simp
      exact hK _ _ ⟨rfl, rfl, hg, Below.refl _ _⟩
    case as8 =>
      intro u wx hg hC
      have hJ7 : u 7 = (.bool true) := hC.at 7 (by kernel_rfl)
      clear hC
      refine wpOp_step rfl (fun K hK => ?_)
      simp only [puts, List.foldl]
      go_simp
      exact hK _ _ ⟨rfl, rfl, hg, Below.refl _ _⟩
    case as9 =>
      intro u wx hg hC
      have hJ8 : u 8 = (.bool true) := hC.at 8 (by kernel_rfl)
      clear hC
      generalize hA : puts [(0, 48), (1, 49), (2, 50), (3, 51), (4, 52), (5, 53), (6, 54), (7, 55), (8, 56), (9, 57), (10, 58), (11, 59), (12, 60), (13, 61), (14, 62), (15, 63), (16, 64), (17, 65), (18, 66), (19, 67), (20, 68), (21, 69), (22, 70), (23, 71), (24, 72), (25, 73), (26, 74), (27, 75), (28, 76), (29, 77), (30, 0)] _ u = A
      have hgv : A.tmps.getD 56 undef = .bool true := by rw [← hA]; exact (puts_get u 8 56 _ _ (by decide) (by decide) (by kernel_rfl)).trans hJ8
      have hgs : 56 < A.tmps.size := by rw [← hA]; exact puts_room u (by kernel_rfl)
      refine wpOp_guard rfl 8 56 true rfl rfl hgs hgv (fun K hK => ?_)
      subst hA
      simp only [puts, List.foldl]
      go_simp
      exact hK _ _ ⟨rfl, rfl, hg, Below.refl _ _⟩
    case as10 =>
      intro u wx hg hC
      have hJ8 : u 8 = (.bool true) := hC.at 8 (by kernel_rfl)
      have hJ9 : u 9 = (.pointer (some ⟨g7, 0, none⟩)) := hC.at 9 (by kernel_rfl)
      clear hC
      have hcl : wx.cell? ⟨g7, 0, none⟩ = some (.slice (some ⟨g13, 0, none⟩) 4 4) := (hg.cell (p := ⟨g7, 0, none⟩) G7.out).trans K0.out
      generalize hA : puts [(0, 48), (1, 49), (2, 50), (3, 51), (4, 52), (5, 53), (6, 54), (7, 55), (8, 56), (9, 57), (10, 58), (11, 59), (12, 60), (13, 61), (14, 62), (15, 63), (16, 64), (17, 65), (18, 66), (19, 67), (20, 68), (21, 69), (22, 70), (23, 71), (24, 72), (25, 73), (26, 74), (27, 75), (28, 76), (29, 77), (30, 0)] _ u = A
      have hgv : A.tmps.getD 56 undef = .bool true := by rw [← hA]; exact (puts_get u 8 56 _ _ (by decide) (by decide) (by kernel_rfl)).trans hJ8
      have hgs : 56 < A.tmps.size := by rw [← hA]; exact puts_room u (by kernel_rfl)
      refine wpOp_guard rfl 8 56 true rfl rfl hgs hgv (fun K hK => ?_)
      subst hA
      simp only [puts, List.foldl]
      go_simp
      exact hK _ _ ⟨rfl, rfl, hg, Below.refl _ _⟩
    case as11 =>
      intro u wx hg hC
      have hJ8 : u 8 = (.bool true) := hC.at 8 (by kernel_rfl)
      have hJ10 : u 10 = (.slice (some ⟨g13, 0, none⟩) 4 4) := hC.at 10 (by kernel_rfl)
      clear hC
      generalize hA : puts [(0, 48), (1, 49), (2, 50), (3, 51), (4, 52), (5, 53), (6, 54), (7, 55), (8, 56), (9, 57), (10, 58), (11, 59), (12, 60), (13, 61), (14, 62), (15, 63), (16, 64), (17, 65), (18, 66), (19, 67), (20, 68), (21, 69), (22, 70), (23, 71), (24, 72), (25, 73), (26, 74), (27, 75), (28, 76), (29, 77), (30, 0)] _ u = A
      have hgv : A.tmps.getD 56 undef = .bool true := by rw [← hA]; exact (puts_get u 8 56 _ _ (by decide) (by decide) (by kernel_rfl)).trans hJ8
      have hgs : 56 < A.tmps.size := by rw [← hA]; exact puts_room u (by kernel_rfl)
      refine wpOp_guard rfl 8 56 true rfl rfl hgs hgv (fun K hK => ?_)
      subst hA
      simp only [puts, List.foldl]
      go_simp
      exact hK _ _ ⟨rfl, rfl, hg, Below.refl _ _⟩
    case as12 =>
      intro u wx hg hC
      have hJ8 : u 8 = (.bool true) := hC.at 8 (by kernel_rfl)
      have hJ11 : u 11 = (.pointer (some ⟨g13, 0, none⟩)) := hC.at 11 (by kernel_rfl)
      clear hC
      generalize hA : puts [(0, 48), (1, 49), (2, 50), (3, 51), (4, 52), (5, 53), (6, 54), (7, 55), (8, 56), (9, 57), (10, 58), (11, 59), (12, 60), (13, 61), (14, 62), (15, 63), (16, 64), (17, 65), (18, 66), (19, 67), (20, 68), (21, 69), (22, 70), (23, 71), (24, 72), (25, 73), (26, 74), (27, 75), (28, 76), (29, 77), (30, 0)] _ u = A
      have hgv : A.tmps.getD 56 undef = .bool true := by rw [← hA]; exact (puts_get u 8 56 _ _ (by decide) (by decide) (by kernel_rfl)).trans hJ8
      have hgs : 56 < A.tmps.size := by rw [← hA]; exact puts_room u (by kernel_rfl)
      have hp : A.tmps.getD 59 undef = .pointer (some ⟨g13, 0, none⟩) := by rw [← hA]; exact (puts_get u 11 59 _ _ (by decide) (by decide) (by kernel_rfl)).trans hJ11
      have hsz : 60 < A.tmps.size := by rw [← hA]; exact puts_room u (by kernel_rfl)
      refine wpOp_guard rfl 8 56 true rfl rfl hgs hgv (fun K hK => ?_)
      clear hA
      exact opLoadRK (φ := Is (.agg (MA).toArray)) (HRA.out wx hg).1 _ fits_block LA2.out 60 rfl hsz hK (.tmp 59) rfl hp rfl hg
    case as13 =>
      intro u wx hg hC
      have hJ8 : u 8 = (.bool true) := hC.at 8 (by kernel_rfl)
      clear hC
      generalize hA : puts [(0, 48), (1, 49), (2, 50), (3, 51), (4, 52), (5, 53), (6, 54), (7, 55), (8, 56), (9, 57), (10, 58), (11, 59), (12, 60), (13, 61), (14, 62), (15, 63), (16, 64), (17, 65), (18, 66), (19, 67), (20, 68), (21, 69), (22, 70), (23, 71), (24, 72), (25, 73), (26, 74), (27, 75), (28, 76), (29, 77), (30, 0)] _ u = A
      have hgv : A.tmps.getD 56 undef = .bool true := by rw [← hA]; exact (puts_get u 8 56 _ _ (by decide) (by decide) (by kernel_rfl)).trans hJ8
      have hgs : 56 < A.tmps.size := by rw [← hA]; exact puts_room u (by kernel_rfl)
      have hp : A.tmps.getD 3 undef = .pointer (some ⟨g3, 0, none⟩) := by rw [← hA]; exact (puts_get_out u _ _ 3 (by decide)).trans (by rfl)
      have hsz : 61 < A.tmps.size := by rw [← hA]; exact puts_room u (by kernel_rfl)
      refine wpOp_guard rfl 8 56 true rfl rfl hgs hgv (fun K hK => ?_)
      clear hA
      exact opLoadK (φ := Is (.agg (MA).toArray)) (Q15.out.step hg) _ fits_block LA2.out 61 rfl hsz hK (.tmp 3) rfl hp rfl hg
    case as14 =>
      intro u wx hg hC
      have hJ8 : u 8 = (.bool true) := hC.at 8 (by kernel_rfl)
      have hJ12 : u 12 = (.agg (MA).toArray) := hC.at 12 (by kernel_rfl)
      have hJ13 : u 13 = (.agg (MA).toArray) := hC.at 13 (by kernel_rfl)
      clear hC
      have heq := HEA.out
      generalize hA : puts [(0, 48), (1, 49), (2, 50), (3, 51), (4, 52), (5, 53), (6, 54), (7, 55), (8, 56), (9, 57), (10, 58), (11, 59), (12, 60), (13, 61), (14, 62), (15, 63), (16, 64), (17, 65), (18, 66), (19, 67), (20, 68), (21, 69), (22, 70), (23, 71), (24, 72), (25, 73), (26, 74), (27, 75), (28, 76), (29, 77), (30, 0)] _ u = A
      have hgv : A.tmps.getD 56 undef = .bool true := by rw [← hA]; exact (puts_get u 8 56 _ _ (by decide) (by decide) (by kernel_rfl)).trans hJ8
      have hgs : 56 < A.tmps.size := by rw [← hA]; exact puts_room u (by kernel_rfl)
      refine wpOp_guard rfl 8 56 true rfl rfl hgs hgv (fun K hK => ?_)
      subst hA
      simp only [puts, List.foldl]
      go_simp
      exact hK _ _ ⟨rfl, rfl, hg, Below.refl _ _⟩
    case as15 =>
      intro u wx hg hC
      have hJ8 : u 8 = (.bool true) := hC.at 8 (by kernel_rfl)
      have hJ14 : u 14 = (.bool true) := hC.at 14 (by kernel_rfl)
      clear hC
      refine wpOp_step rfl (fun K hK => ?_)
      simp only [puts, List.foldl]
      go_simp
      exact hK _ _ ⟨rfl, rfl, hg, Below.refl _ _⟩
    case as16 =>
      intro u wx hg hC
      have hJ15 : u 15 = (.bool true) := hC.at 15 (by kernel_rfl)
      clear hC
      refine wpOp_step rfl (fun K hK => ?_)
      simp only [puts, List.foldl]
      go_simp
      exact hK _ _ ⟨rfl, rfl, hg, Below.refl _ _⟩
    case as17 =>
      intro u wx hg hC
      have hJ16 : u 16 = (.bool true) := hC.at 16 (by kernel_rfl)
      clear hC
      generalize hA : puts [(0, 48), (1, 49), (2, 50), (3, 51), (4, 52), (5, 53), (6, 54), (7, 55), (8, 56), (9, 57), (10, 58), (11, 59), (12, 60), (13, 61), (14, 62), (15, 63), (16, 64), (17, 65), (18, 66), (19, 67), (20, 68), (21, 69), (22, 70), (23, 71), (24, 72), (25, 73), (26, 74), (27, 75), (28, 76), (29, 77), (30, 0)] _ u = A
      have hgv : A.tmps.getD 64 undef = .bool true := by rw [← hA]; exact (puts_get u 16 64 _ _ (by decide) (by decide) (by kernel_rfl)).trans hJ16
      have hgs : 64 < A.tmps.size := by rw [← hA]; exact puts_room u (by kernel_rfl)
      refine wpOp_guard rfl 16 64 true rfl rfl hgs hgv (fun K hK => ?_)
      subst hA
      simp only [puts, List.foldl]
      go_simp
      exact hK _ _ ⟨rfl, rfl, hg, Below.refl _ _⟩
    case as18 =>
      intro u wx hg hC
      have hJ16 : u 16 = (.bool true) := hC.at 16 (by kernel_rfl)
      have hJ17 : u 17 = (.pointer (some ⟨g7, 0, none⟩)) := hC.at 17 (by kernel_rfl)
      clear hC
      have hcl : wx.cell? ⟨g7, 0, none⟩ = some (.slice (some ⟨g13, 0, none⟩) 4 4) := (hg.cell (p := ⟨g7, 0, none⟩) G7.out).trans K0.out
      generalize hA : puts [(0, 48), (1, 49), (2, 50), (3, 51), (4, 52), (5, 53), (6, 54), (7, 55), (8, 56), (9, 57), (10, 58), (11, 59), (12, 60), (13, 61), (14, 62), (15, 63), (16, 64), (17, 65), (18, 66), (19, 67), (20, 68), (21, 69), (22, 70), (23, 71), (24, 72), (25, 73), (26, 74), (27, 75), (28, 76), (29, 77), (30, 0)] _ u = A
      have hgv : A.tmps.getD 64 undef = .bool true := by rw [← hA]; exact (puts_get u 16 64 _ _ (by decide) (by decide) (by kernel_rfl)).trans hJ16
      have hgs : 64 < A.tmps.size := by rw [← hA]; exact puts_room u (by kernel_rfl)
      refine wpOp_guard rfl 16 64 true rfl rfl hgs hgv (fun K hK => ?_)
      subst hA
      simp only [puts, List.foldl]
      go_simp
      exact hK _ _ ⟨rfl, rfl, hg, Below.refl _ _⟩
    case as19 =>
      intro u wx hg hC
      have hJ16 : u 16 = (.bool true) := hC.at 16 (by kernel_rfl)
      have hJ18 : u 18 = (.slice (some ⟨g13, 0, none⟩) 4 4) := hC.at 18 (by kernel_rfl)
      clear hC
      generalize hA : puts [(0, 48), (1, 49), (2, 50), (3, 51), (4, 52), (5, 53), (6, 54), (7, 55), (8, 56), (9, 57), (10, 58), (11, 59), (12, 60), (13, 61), (14, 62), (15, 63), (16, 64), (17, 65), (18, 66), (19, 67), (20, 68), (21, 69), (22, 70), (23, 71), (24, 72), (25, 73), (26, 74), (27, 75), (28, 76), (29, 77), (30, 0)] _ u = A
      have hgv : A.tmps.getD 64 undef = .bool true := by rw [← hA]; exact (puts_get u 16 64 _ _ (by decide) (by decide) (by kernel_rfl)).trans hJ16
      have hgs : 64 < A.tmps.size := by rw [← hA]; exact puts_room u (by kernel_rfl)
      refine wpOp_guard rfl 16 64 true rfl rfl hgs hgv (fun K hK => ?_)
      subst hA
      simp only [puts, List.foldl]
      go_simp
      exact hK _ _ ⟨rfl, rfl, hg, Below.refl _ _⟩
    case as20 =>
      intro u wx hg hC
      have hJ16 : u 16 = (.bool true) := hC.at 16 (by kernel_rfl)
      have hJ19 : u 19 = (.pointer (some ⟨g13, 60, none⟩)) := hC.at 19 (by kernel_rfl)
      clear hC
      generalize hA : puts [(0, 48), (1, 49), (2, 50), (3, 51), (4, 52), (5, 53), (6, 54), (7, 55), (8, 56), (9, 57), (10, 58), (11, 59), (12, 60), (13, 61), (14, 62), (15, 63), (16, 64), (17, 65), (18, 66), (19, 67), (20, 68), (21, 69), (22, 70), (23, 71), (24, 72), (25, 73), (26, 74), (27, 75), (28, 76), (29, 77), (30, 0)] _ u = A
      have hgv : A.tmps.getD 64 undef = .bool true := by rw [← hA]; exact (puts_get u 16 64 _ _ (by decide) (by decide) (by kernel_rfl)).trans hJ16
      have hgs : 64 < A.tmps.size := by rw [← hA]; exact puts_room u (by kernel_rfl)
      have hp : A.tmps.getD 67 undef = .pointer (some ⟨g13, 60, none⟩) := by rw [← hA]; exact (puts_get u 19 67 _ _ (by decide) (by decide) (by kernel_rfl)).trans hJ19
      have hsz : 68 < A.tmps.size := by rw [← hA]; exact puts_room u (by kernel_rfl)
      refine wpOp_guard rfl 16 64 true rfl rfl hgs hgv (fun K hK => ?_)
      clear hA
      exact opLoadRK (φ := Is (.agg (MB).toArray)) (HRA.out wx hg).2 _ fits_block LB2.out 68 rfl hsz hK (.tmp 67) rfl hp rfl hg
    case as21 =>
      intro u wx hg hC
      have hJ16 : u 16 = (.bool true) := hC.at 16 (by kernel_rfl)
      clear hC
      generalize hA : puts [(0, 48), (1, 49), (2, 50), (3, 51), (4, 52), (5, 53), (6, 54), (7, 55), (8, 56), (9, 57), (10, 58), (11, 59), (12, 60), (13, 61), (14, 62), (15, 63), (16, 64), (17, 65), (18, 66), (19, 67), (20, 68), (21, 69), (22, 70), (23, 71), (24, 72), (25, 73), (26, 74), (27, 75), (28, 76), (29, 77), (30, 0)] _ u = A
      have hgv : A.tmps.getD 64 undef = .bool true := by rw [← hA]; exact (puts_get u 16 64 _ _ (by decide) (by decide) (by kernel_rfl)).trans hJ16
      have hgs : 64 < A.tmps.size := by rw [← hA]; exact puts_room u (by kernel_rfl)
      have hp : A.tmps.getD 4 undef = .pointer (some ⟨g4, 0, none⟩) := by rw [← hA]; exact (puts_get_out u _ _ 4 (by decide)).trans (by rfl)
      have hsz : 69 < A.tmps.size := by rw [← hA]; exact puts_room u (by kernel_rfl)
      refine wpOp_guard rfl 16 64 true rfl rfl hgs hgv (fun K hK => ?_)
      clear hA
      exact opLoadK (φ := Is (.agg (MB).toArray)) (P15.out.step hg) _ fits_block LB2.out 69 rfl hsz hK (.tmp 4) rfl hp rfl hg
    case as22 =>
      intro u wx hg hC
      have hJ16 : u 16 = (.bool true) := hC.at 16 (by kernel_rfl)
      have hJ20 : u 20 = (.agg (MB).toArray) := hC.at 20 (by kernel_rfl)
      have hJ21 : u 21 = (.agg (MB).toArray) := hC.at 21 (by kernel_rfl)
      clear hC
      have heq := HEB.out
      generalize hA : puts [(0, 48), (1, 49), (2, 50), (3, 51), (4, 52), (5, 53), (6, 54), (7, 55), (8, 56), (9, 57), (10, 58), (11, 59), (12, 60), (13, 61), (14, 62), (15, 63), (16, 64), (17, 65), (18, 66), (19, 67), (20, 68), (21, 69), (22, 70), (23, 71), (24, 72), (25, 73), (26, 74), (27, 75), (28, 76), (29, 77), (30, 0)] _ u = A
      have hgv : A.tmps.getD 64 undef = .bool true := by rw [← hA]; exact (puts_get u 16 64 _ _ (by decide) (by decide) (by kernel_rfl)).trans hJ16
      have hgs : 64 < A.tmps.size := by rw [← hA]; exact puts_room u (by kernel_rfl)
      refine wpOp_guard rfl 16 64 true rfl rfl hgs hgv (fun K hK => ?_)
      subst hA
      simp only [puts, List.foldl]
      go_simp
      exact hK _ _ ⟨rfl, rfl, hg, Below.refl _ _⟩
    case as23 =>
      intro u wx hg hC
      have hJ16 : u 16 = (.bool true) := hC.at 16 (by kernel_rfl)
      have hJ22 : u 22 = (.bool true) := hC.at 22 (by kernel_rfl)
      clear hC
      refine wpOp_step rfl (fun K hK => ?_)
      simp only [puts, List.foldl]
      go_simp
      exact hK _ _ ⟨rfl, rfl, hg, Below.refl _ _⟩
    case as24 =>
      intro u wx hg hC
      have hJ23 : u 23 = (.bool true) := hC.at 23 (by kernel_rfl)
      clear hC
      refine wpOp_step rfl (fun K hK => ?_)
      simp only [puts, List.foldl]
      go_simp
      exact hK _ _ ⟨rfl, rfl, hg, Below.refl _ _⟩
    case as25 =>
      intro u wx hg hC
      have hJ24 : u 24 = (.bool true) := hC.at 24 (by kernel_rfl)
      clear hC
      generalize hA : puts [(0, 48), (1, 49), (2, 50), (3, 51), (4, 52), (5, 53), (6, 54), (7, 55), (8, 56), (9, 57), (10, 58), (11, 59), (12, 60), (13, 61), (14, 62), (15, 63), (16, 64), (17, 65), (18, 66), (19, 67), (20, 68), (21, 69), (22, 70), (23, 71), (24, 72), (25, 73), (26, 74), (27, 75), (28, 76), (29, 77), (30, 0)] _ u = A
      have hgv : A.tmps.getD 72 undef = .bool true := by rw [← hA]; exact (puts_get u 24 72 _ _ (by decide) (by decide) (by kernel_rfl)).trans hJ24
      have hgs : 72 < A.tmps.size := by rw [← hA]; exact puts_room u (by kernel_rfl)
      refine wpOp_guard rfl 24 72 true rfl rfl hgs hgv (fun K hK => ?_)
      subst hA
      simp only [puts, List.foldl]
      go_simp
      exact hK _ _ ⟨rfl, rfl, hg, Below.refl _ _⟩
    case as26 =>
      intro u wx hg hC
      have hJ24 : u 24 = (.bool true) := hC.at 24 (by kernel_rfl)
      have hJ25 : u 25 = (.pointer (some ⟨g7, 1, none⟩)) := hC.at 25 (by kernel_rfl)
      clear hC
      have hcl : wx.cell? ⟨g7, 1, none⟩ = some (.slice a13 2 c13) := (hg.cell (p := ⟨g7, 1, none⟩) G7.out).trans K1.out
      generalize hA : puts [(0, 48), (1, 49), (2, 50), (3, 51), (4, 52), (5, 53), (6, 54), (7, 55), (8, 56), (9, 57), (10, 58), (11, 59), (12, 60), (13, 61), (14, 62), (15, 63), (16, 64), (17, 65), (18, 66), (19, 67), (20, 68), (21, 69), (22, 70), (23, 71), (24, 72), (25, 73), (26, 74), (27, 75), (28, 76), (29, 77), (30, 0)] _ u = A
      have hgv : A.tmps.getD 72 undef = .bool true := by rw [← hA]; exact (puts_get u 24 72 _ _ (by decide) (by decide) (by kernel_rfl)).trans hJ24
      have hgs : 72 < A.tmps.size := by rw [← hA]; exact puts_room u (by kernel_rfl)
      refine wpOp_guard rfl 24 72 true rfl rfl hgs hgv (fun K hK => ?_)
      subst hA
      simp only [puts, List.foldl]
      go_simp
      exact hK _ _ ⟨rfl, rfl, hg, Below.refl _ _⟩
    case as27 =>
      intro u wx hg hC
      have hJ24 : u 24 = (.bool true) := hC.at 24 (by kernel_rfl)
      clear hC
      generalize hA : puts [(0, 48), (1, 49), (2, 50), (3, 51), (4, 52), (5, 53), (6, 54), (7, 55), (8, 56), (9, 57), (10, 58), (11, 59), (12, 60), (13, 61), (14, 62), (15, 63), (16, 64), (17, 65), (18, 66), (19, 67), (20, 68), (21, 69), (22, 70), (23, 71), (24, 72), (25, 73), (26, 74), (27, 75), (28, 76), (29, 77), (30, 0)] _ u = A
      have hgv : A.tmps.getD 72 undef = .bool true := by rw [← hA]; exact (puts_get u 24 72 _ _ (by decide) (by decide) (by kernel_rfl)).trans hJ24
      have hgs : 72 < A.tmps.size := by rw [← hA]; exact puts_room u (by kernel_rfl)
      refine wpOp_guard rfl 24 72 true rfl rfl hgs hgv (fun K hK => ?_)
      subst hA
      simp only [puts, List.foldl]
      go_simp
      exact hK _ _ ⟨rfl, ⟨some ⟨wx.heap.size, 0, none⟩, 2, rfl, Nat.le_refl _, Lies.new [Value.int .i64 0, Value.int .i64 2] _ _⟩, hg.alloc hg.size _, alloc_below _ _⟩
    case as28 =>
      intro u wx hg hC
      have hJ24 : u 24 = (.bool true) := hC.at 24 (by kernel_rfl)
      have hJ26 : u 26 = (.slice a13 2 c13) := hC.at 26 (by kernel_rfl)
      have hJ27 : (IRd [0, 2]) (u 27) wx := hC.at 27 (by kernel_rfl)
      clear hC
      generalize hA : puts [(0, 48), (1, 49), (2, 50), (3, 51), (4, 52), (5, 53), (6, 54), (7, 55), (8, 56), (9, 57), (10, 58), (11, 59), (12, 60), (13, 61), (14, 62), (15, 63), (16, 64), (17, 65), (18, 66), (19, 67), (20, 68), (21, 69), (22, 70), (23, 71), (24, 72), (25, 73), (26, 74), (27, 75), (28, 76), (29, 77), (30, 0)] _ u = A
      have hgv : A.tmps.getD 72 undef = .bool true := by rw [← hA]; exact (puts_get u 24 72 _ _ (by decide) (by decide) (by kernel_rfl)).trans hJ24
      have hgs : 72 < A.tmps.size := by rw [← hA]; exact puts_room u (by kernel_rfl)
      refine wpOp_guard rfl 24 72 true rfl rfl hgs hgv (fun K hK => ?_)
      subst hA
      simp only [puts, List.foldl]
      go_simp
      refine (HSM.out wx hg _ hJ27).mono ?_
      rintro e w' ⟨rfl, hb'⟩
      exact hK _ _ ⟨rfl, rfl, hg.next hb', hb'⟩
    case as29 =>
      intro u wx hg hC
      have hJ24 : u 24 = (.bool true) := hC.at 24 (by kernel_rfl)
      have hJ28 : u 28 = (.bool true) := hC.at 28 (by kernel_rfl)
      clear hC
      refine wpOp_step rfl (fun K hK => ?_)
      simp only [puts, List.foldl]
      go_simp
      exact hK _ _ ⟨rfl, rfl, hg, Below.refl _ _⟩
    case as30 =>
      intro u wx hg hC
      have hJ29 : u 29 = (.bool true) := hC.at 29 (by kernel_rfl)
      clear hC
      refine wpOp_step rfl (fun K hK => ?_)
      simp only [puts, List.foldl]
      go_simp
      exact hK _ _ ⟨rfl, rfl, hg, Below.refl _ _⟩
  case fina =>
    intro u w16 hb16 hφ
    have e30 : u 30 = .bool true := hφ (30, 0) (by decide)
    clear hφ
    simp only [puts, List.foldl]
    rw [e30]
    go_simp
    have B16 := Lib.hid (B15.out.next hb16)
    clear hb16 e30
    go_wp2
    go_ret
    exact ⟨rfl, B16.out⟩
end Go.Proofs.YtnbjaijhdjneoaaGreat

namespace Go.Proofs.YtnbjaijhdjneoaaGreat
open Go.RowKit CrcMath GfMath PolyMath RsMath SolMath GeoMath
set_option linter.unusedVariables false
set_option maxRecDepth 100000
def TG : Open.Ty := .pair (.int .i64) (.pair (.int .i64) (.pair (.int .i64) .unit))
theorem reads_geo {w : World} {cs : List Value} {x : TG.den} (h : Open.Reads w TG cs x) : ∃ d p s : Int, cs = [.int .i64 d, .int .i64 p, .int .i64 s] := by
  have hl : cs.length = 3 := h.length
  match cs, hl with
  | [a, b, c], _ =>
    obtain ⟨⟨h1, g1⟩, ⟨h2, g2⟩, ⟨h3, g3⟩, _⟩ := h
    have e1 : a = .int .i64 x.1 := by simpa [Open.Ty.size] using h1
    have e2 : b = .int .i64 x.2.1 := by simpa [Open.Ty.size] using h2
    have e3 : c = .int .i64 x.2.2.1 := by simpa [Open.Ty.size] using h3
    exact ⟨_, _, _, by rw [e1, e2, e3]⟩
theorem reads_blocks {w : World} {a : Option Addr} {cap : Nat} {l : List (List Int)} {by_ : Nat} (h : Open.Reads w (.sl by_ (.arr 60 (.int .u8))) [.slice a l.length cap] l) :
    ∃ L : List (List UInt8), L.length = l.length ∧ (∀ b ∈ L, b.length = 60) ∧ Lies w w.heap.size a (bytes L.flatten) ∧ l.length ≤ cap := by
  obtain ⟨a', cap', e, h1, h2, h3, h4⟩ := h
  simp at e
  obtain ⟨rfl, rfl⟩ := e
  by_cases h0 : 0 < l.length
  · obtain ⟨b, off, e1, e2, e3⟩ := h4 h0
    have hc : ∀ i, i < l.length → ∃ H : List UInt8, H.length = 60 ∧ ∀ j, j < 60 → w.cell? ⟨b, off + (i * 60 + j), none⟩ = (bytes H)[j]? := fun i hi => by
      obtain ⟨cs', q1, q2, q3⟩ := e3 i hi
      obtain ⟨H, hH, rfl⟩ := reads_bytes q3
      exact ⟨H, hH, fun j hj => by simpa [Open.Ty.size] using q2 j (by simpa [Open.Ty.size] using hj)⟩
    have hL : ∀ n, n ≤ l.length → ∃ L : List (List UInt8), L.length = n ∧ ∀ i (hi : i < L.length), L[i].length = 60 ∧ ∀ j, j < 60 → w.cell? ⟨b, off + (i * 60 + j), none⟩ = (bytes L[i])[j]? := by
      intro n
      induction n with
      | zero => exact fun _ => ⟨[], rfl, fun i hi => by simp at hi⟩
      | succ n ih =>
        intro hn
        obtain ⟨L, hl, hp⟩ := ih (by omega)
        obtain ⟨H, hH, hq⟩ := hc n (by omega)
        refine ⟨L ++ [H], by simp [hl], fun i hi => ?_⟩
        by_cases hin : i < L.length
        · rw [List.getElem_append_left hin]; exact hp i hin
        · have e : i = n := by simp at hi; omega
          subst e
          rw [List.getElem_append_right (by omega)]
          simp only [hl, Nat.sub_self, List.getElem_cons_zero]
          exact ⟨hH, hq⟩
    obtain ⟨L, hl, hp⟩ := hL l.length (Nat.le_refl _)
    have h60 : ∀ c ∈ L, c.length = 60 := fun c hc => by
      obtain ⟨i, hi, rfl⟩ := List.mem_iff_getElem.1 hc
      exact (hp i hi).1
    refine ⟨L, hl, h60, fun _ => ⟨b, off, e1, e2, fun j u hj => ?_⟩, h1⟩
    have hjl : j < 60 * L.length := by
      have := (List.getElem?_eq_some_iff.1 hj).1
      rwa [bytes_length, flat_length L h60] at this
    have hk : j / 60 < L.length := by omega
    obtain ⟨z, e4, e5⟩ := flat_mid L h60 (j / 60) hk
    have hx := (hp (j / 60) hk).2 (j % 60) (Nat.mod_lt _ (by decide))
    rw [show j / 60 * 60 + j % 60 = j by omega] at hx
    rw [hx]
    have hlen := (hp (j / 60) hk).1
    generalize L[j / 60] = C at e4 hx hlen ⊢
    rw [e4, bytes_append, bytes_append, List.append_assoc, List.getElem?_append_right (by rw [bytes_length, e5]; omega), bytes_length, e5, List.getElem?_append_left (by rw [bytes_length, hlen]; omega), show j - 60 * (j / 60) = j % 60 by omega] at hj
    exact hj
  · exact ⟨[], by simp; omega, fun b hb => by simp at hb, fun h => by simp [bytes] at h, h1⟩
theorem reads_fb {w : World} {a : Option Addr} {cap : Nat} {l : List (List Int)} {by_ : Nat} (h : Open.Reads w (.sl by_ (.arr 60 (.int .u8))) [.slice a l.length cap] l) : ∃ f : Fb, Lies w w.heap.size a (bytes (grid l.length f)) := by
  obtain ⟨L, h1, h2, h3, _⟩ := reads_blocks h
  refine ⟨ofL L, ?_⟩
  rw [← h1, ← grid_of L h2]
  exact h3
end Go.Proofs.YtnbjaijhdjneoaaGreat

namespace RsMath
open GfMath PolyMath
set_option linter.unusedVariables false

def dotf (r v : Nat → Nat) (m : Nat) : Nat := xs (fun c => gm (r c) (v c)) m
def Solf (F : Nat → Nat → Nat) (H m : Nat) (v : Nat → Nat) : Prop := ∀ i, i < H → dotf (F i) v m = F i m
def swapf (F : Nat → Nat → Nat) (a b : Nat) : Nat → Nat → Nat := fun i => if i = a then F b else if i = b then F a else F i
def scalef (F : Nat → Nat → Nat) (j : Nat) : Nat → Nat → Nat := fun i c => if i = j then gm (F j c) (iv (F j j)) else F i c
def elimf (F : Nat → Nat → Nat) (j : Nat) : Nat → Nat → Nat := fun i c => if i = j then F j c else F i c ^^^ gm (F i j) (F j c)
def Byf (F : Nat → Nat → Nat) : Prop := ∀ i c, F i c < 256
def Uni (F : Nat → Nat → Nat) (H j : Nat) : Prop := ∀ c, c < j → ∀ i, i < H → F i c = if i = c then 1 else 0

theorem byf_swap {F : Nat → Nat → Nat} (h : Byf F) (a b : Nat) : Byf (swapf F a b) := fun i c => by unfold swapf; split; exact h _ _; split; exact h _ _; exact h _ _
theorem byf_scale {F : Nat → Nat → Nat} (h : Byf F) (j : Nat) : Byf (scalef F j) := fun i c => by unfold scalef; split; exact gm_lt (h _ _) (iv_lt _); exact h _ _
theorem byf_elim {F : Nat → Nat → Nat} (h : Byf F) (j : Nat) : Byf (elimf F j) := fun i c => by unfold elimf; split; exact h _ _; exact xor_lt (h _ _) (gm_lt (h _ _) (h _ _))
theorem dotf_lt {r v : Nat → Nat} (hr : ∀ c, r c < 256) (hv : ∀ c, v c < 256) (m : Nat) : dotf r v m < 256 := xs_lt m fun i _ => gm_lt (hr i) (hv i)

theorem sol_swap {F : Nat → Nat → Nat} {H m a b : Nat} (ha : a < H) (hb : b < H) (v : Nat → Nat) : Solf (swapf F a b) H m v ↔ Solf F H m v := by
  constructor
  · intro h i hi
    by_cases h1 : i = a
    · have := h b hb
      unfold swapf at this
      by_cases h2 : b = a
      · rw [if_pos h2, h2, ← h1] at this; exact this
      · rw [if_neg h2, if_pos rfl] at this; rw [h1]; exact this
    · by_cases h2 : i = b
      · have := h a ha
        unfold swapf at this
        rw [if_pos rfl] at this
        rw [h2]; exact this
      · have := h i hi
        unfold swapf at this
        rw [if_neg h1, if_neg h2] at this
        exact this
  · intro h i hi
    unfold swapf
    by_cases h1 : i = a
    · rw [if_pos h1]; exact h b hb
    · rw [if_neg h1]
      by_cases h2 : i = b
      · rw [if_pos h2]; exact h a ha
      · rw [if_neg h2]; exact h i hi

theorem dot_scale {F : Nat → Nat → Nat} (hF : Byf F) {v : Nat → Nat} (hv : ∀ c, v c < 256) (j m : Nat) (s : Nat) (hs : s < 256) : dotf (fun c => gm (F j c) s) v m = gm (dotf (F j) v m) s := by
  unfold dotf
  rw [xs_gm_right]
  refine xs_congr m fun c _ => ?_
  rw [gm_assoc (hF _ _) hs (hv c), gm_comm hs (hv c), ← gm_assoc (hF _ _) (hv c) hs]
theorem gm_right_cancel {a b c : Nat} (ha : a < 256) (hb : b < 256) (hc : c < 256) (h0 : c ≠ 0) (h : gm a c = gm b c) : a = b := by
  rw [gm_comm ha hc, gm_comm hb hc] at h
  exact gm_cancel hc ha hb h0 h
theorem iv_ne {a : Nat} (ha : a < 256) (h0 : a ≠ 0) : iv a ≠ 0 := fun e => by
  have := gm_iv ha h0
  rw [e, gm_zero_right] at this
  cases this
theorem sol_scale {F : Nat → Nat → Nat} (hF : Byf F) {H m j : Nat} (hj : j < H) (h0 : F j j ≠ 0) {v : Nat → Nat} (hv : ∀ c, v c < 256) : Solf (scalef F j) H m v ↔ Solf F H m v := by
  have hs : iv (F j j) < 256 := iv_lt _
  have key : dotf (scalef F j j) v m = gm (dotf (F j) v m) (iv (F j j)) := by
    rw [← dot_scale hF hv j m _ hs]
    exact xs_congr m fun c _ => by unfold scalef; rw [if_pos rfl]
  have other : ∀ i, i ≠ j → scalef F j i = F i := fun i hi => funext fun c => by unfold scalef; rw [if_neg hi]
  have rhs : scalef F j j m = gm (F j m) (iv (F j j)) := by unfold scalef; rw [if_pos rfl]
  constructor
  · intro h i hi
    by_cases e : i = j
    · subst e
      have := h i hi
      rw [key, rhs] at this
      exact gm_right_cancel (dotf_lt (hF i) hv m) (hF i m) hs (iv_ne (hF i i) h0) this
    · have := h i hi
      rw [other i e] at this
      exact this
  · intro h i hi
    by_cases e : i = j
    · subst e
      rw [key, rhs, h i hi]
    · rw [other i e]; exact h i hi

theorem sol_elim {F : Nat → Nat → Nat} (hF : Byf F) {H m j : Nat} (hj : j < H) {v : Nat → Nat} (hv : ∀ c, v c < 256) : Solf (elimf F j) H m v ↔ Solf F H m v := by
  have self : elimf F j j = F j := funext fun c => by unfold elimf; rw [if_pos rfl]
  have key : ∀ i, i ≠ j → dotf (elimf F j i) v m = dotf (F i) v m ^^^ gm (F i j) (dotf (F j) v m) := fun i hi => by
    unfold dotf
    rw [xs_gm, ← xs_xor]
    refine xs_congr m fun c _ => ?_
    unfold elimf
    rw [if_neg hi, gm_add_left, gm_assoc (hF _ _) (hF _ _) (hv c)]
  have rhs : ∀ i, i ≠ j → elimf F j i m = F i m ^^^ gm (F i j) (F j m) := fun i hi => by unfold elimf; rw [if_neg hi]
  have back : ∀ a b c : Nat, a ^^^ c = b ^^^ c → a = b := fun a b c h => by
    have := congrArg (· ^^^ c) h
    simpa [Nat.xor_assoc] using this
  constructor
  · intro h
    have hjj : dotf (F j) v m = F j m := by have := h j hj; rw [self] at this; exact this
    intro i hi
    by_cases e : i = j
    · rw [e]; exact hjj
    · have := h i hi
      rw [key i e, rhs i e, hjj] at this
      exact back _ _ _ this
  · intro h i hi
    by_cases e : i = j
    · rw [e, self]; exact h j hj
    · rw [key i e, rhs i e, h i hi, h j hj]

/-- One column: the pivot's row comes to its place, is scaled, and the column is cleared. -/
def stepf (F : Nat → Nat → Nat) (j at_ : Nat) : Nat → Nat → Nat := elimf (scalef (swapf F j at_) j) j
theorem byf_step {F : Nat → Nat → Nat} (h : Byf F) (j a : Nat) : Byf (stepf F j a) := byf_elim (byf_scale (byf_swap h _ _) _) _
theorem swap_at (F : Nat → Nat → Nat) (j a : Nat) : swapf F j a j = F a := by unfold swapf; rw [if_pos rfl]
theorem sol_step {F : Nat → Nat → Nat} (hF : Byf F) {H m j a : Nat} (hj : j < H) (ha : a < H) (h0 : F a j ≠ 0) {v : Nat → Nat} (hv : ∀ c, v c < 256) : Solf (stepf F j a) H m v ↔ Solf F H m v := by
  have hS := byf_swap hF j a
  rw [stepf, sol_elim (byf_scale hS j) hj hv, sol_scale hS hj (by rw [swap_at]; exact h0) hv, sol_swap hj ha]
theorem uni_step {F : Nat → Nat → Nat} (hF : Byf F) {H j a : Nat} (hj : j < H) (hja : j ≤ a) (ha : a < H) (h0 : F a j ≠ 0) (hU : Uni F H j) : Uni (stepf F j a) H (j + 1) := by
  have hS := byf_swap hF j a
  intro c hc i hi
  by_cases hcj : c = j
  · subst hcj
    have hp : scalef (swapf F c a) c c c = 1 := by
      unfold scalef
      rw [if_pos rfl, swap_at]
      exact gm_iv (hF a c) h0
    unfold stepf elimf
    by_cases e : i = c
    · subst e
      rw [if_pos rfl, if_pos rfl, hp]
    · rw [if_neg e, if_neg e, hp, gm_one (byf_scale hS c i c), Nat.xor_self]
  · have hc2 : c < j := by omega
    have hz : scalef (swapf F j a) j j c = 0 := by
      unfold scalef
      rw [if_pos rfl, swap_at, hU c hc2 a ha, if_neg (by omega), gm_zero_left]
    have hsame : swapf F j a i c = if i = c then 1 else 0 := by
      unfold swapf
      by_cases h1 : i = j
      · rw [if_pos h1, hU c hc2 a ha, if_neg (by omega), if_neg (by omega)]
      · rw [if_neg h1]
        by_cases h2 : i = a
        · rw [if_pos h2, hU c hc2 j hj, if_neg (by omega), if_neg (by omega)]
        · rw [if_neg h2]; exact hU c hc2 i hi
    unfold stepf elimf
    by_cases e : i = j
    · rw [if_pos e, hz, if_neg (by omega)]
    · rw [if_neg e, hz, gm_zero_right, Nat.xor_zero]
      unfold scalef
      rw [if_neg e]
      exact hsame

theorem xs_one (f : Nat → Nat) (m i : Nat) (hi : i < m) (h0 : ∀ c, c < m → c ≠ i → f c = 0) : xs f m = f i := by
  rw [show m = i + (1 + (m - i - 1)) by omega, xs_split, xs_zero i fun c hc => h0 c (by omega) (by omega), Nat.zero_xor, xs_split, xs_zero (m - i - 1) fun c hc => h0 (i + (1 + c)) (by omega) (by omega), Nat.xor_zero]
  show 0 ^^^ f (i + 0) = f i
  rw [Nat.zero_xor]
  rfl
/-- All columns cleared: the solution is the right side. -/
theorem uni_end {F : Nat → Nat → Nat} {H m : Nat} (hU : Uni F H m) (hm : m ≤ H) {v : Nat → Nat} (hv : ∀ c, v c < 256) :
    Solf F H m v ↔ (∀ i, i < m → v i = F i m) ∧ ∀ i, m ≤ i → i < H → F i m = 0 := by
  have hlow : ∀ i, i < m → dotf (F i) v m = v i := fun i hi => by
    unfold dotf
    rw [xs_one _ m i hi fun c hc hne => by rw [hU c hc i (by omega), if_neg (fun e => hne e.symm), gm_zero_left], hU i hi i (by omega), if_pos rfl, gm_one_left (hv i)]
  have hhigh : ∀ i, m ≤ i → i < H → dotf (F i) v m = 0 := fun i hi hi2 => xs_zero m fun c hc => by rw [hU c hc i hi2, if_neg (by omega), gm_zero_left]
  constructor
  · intro h
    exact ⟨fun i hi => by rw [← h i (by omega), hlow i hi], fun i hi hi2 => by rw [← h i hi2, hhigh i hi hi2]⟩
  · intro h i hi
    by_cases hc : i < m
    · rw [hlow i hc]; exact h.1 i hc
    · rw [hhigh i (by omega) hi, h.2 i (by omega) hi]
/-- A column without a pivot: each solution has another one beside it. -/
theorem uni_none {F : Nat → Nat → Nat} (hF : Byf F) {H m j : Nat} (hU : Uni F H j) (hj : j < m) (h0 : ∀ i, j ≤ i → i < H → F i j = 0) {v : Nat → Nat} (hv : ∀ c, v c < 256) (hs : Solf F H m v) :
    ∃ v' : Nat → Nat, (∀ c, v' c < 256) ∧ Solf F H m v' ∧ v' j ≠ v j := by
  let d : Nat → Nat := fun c => if c = j then 1 else if c < j ∧ c < H then F c j else 0
  have hd8 : ∀ c, d c < 256 := fun c => by show (if c = j then 1 else if c < j ∧ c < H then F c j else 0) < 256; split; omega; split; exact hF _ _; omega
  have hd : ∀ i, i < H → dotf (F i) d m = 0 := fun i hi => by
    unfold dotf
    rw [show m = j + (1 + (m - j - 1)) by omega, xs_split, xs_split]
    have e3 : xs (fun i_1 => gm (F i (j + (1 + i_1))) (d (j + (1 + i_1)))) (m - j - 1) = 0 := xs_zero _ fun c _ => by
      have : d (j + (1 + c)) = 0 := by show (if j + (1 + c) = j then 1 else if j + (1 + c) < j ∧ _ then _ else 0) = 0; rw [if_neg (by omega), if_neg (by omega)]
      rw [this, gm_zero_right]
    have e2 : xs (fun i_1 => gm (F i (j + i_1)) (d (j + i_1))) 1 = F i j := by
      show 0 ^^^ gm (F i (j + 0)) (d (j + 0)) = _
      have : d (j + 0) = 1 := by show (if j + 0 = j then 1 else _) = 1; rw [if_pos (show j + 0 = j from rfl)]
      rw [this, Nat.zero_xor, gm_one (hF _ _)]
      rfl
    rw [e3, Nat.xor_zero, e2]
    by_cases hij : i < j
    · have e1 : xs (fun c => gm (F i c) (d c)) j = F i j := by
        rw [xs_one _ j i hij fun c hc hne => by rw [hU c hc i hi, if_neg (fun e => hne e.symm), gm_zero_left], hU i hij i hi, if_pos rfl]
        have : d i = F i j := by show (if i = j then 1 else if i < j ∧ i < H then F i j else 0) = _; rw [if_neg (by omega), if_pos ⟨hij, hi⟩]
        rw [this, gm_one_left (hF _ _)]
      rw [e1, Nat.xor_self]
    · have e1 : xs (fun c => gm (F i c) (d c)) j = 0 := xs_zero _ fun c hc => by rw [hU c hc i hi, if_neg (by omega), gm_zero_left]
      rw [e1, h0 i (by omega) hi]
      rfl
  refine ⟨fun c => v c ^^^ d c, fun c => xor_lt (hv c) (hd8 c), fun i hi => ?_, ?_⟩
  · have : dotf (F i) (fun c => v c ^^^ d c) m = dotf (F i) v m ^^^ dotf (F i) d m := by
      unfold dotf
      rw [← xs_xor]
      exact xs_congr m fun c _ => gm_add_right _ _ _
    rw [this, hd i hi, Nat.xor_zero, hs i hi]
  · show v j ^^^ d j ≠ v j
    have : d j = 1 := by show (if j = j then 1 else _) = 1; rw [if_pos rfl]
    rw [this]
    intro e
    have h5 : v j ^^^ (v j ^^^ 1) = 0 := by rw [e, Nat.xor_self]
    rw [← Nat.xor_assoc, Nat.xor_self, Nat.zero_xor] at h5
    cases h5

/-- The first row from j on whose factor in column j isn't 0; H: there is none. -/
def pivf (F : Nat → Nat → Nat) (H j : Nat) : Nat → Nat
  | 0 => H
  | n + 1 => if F (H - (n + 1)) j ≠ 0 then H - (n + 1) else pivf F H j n
theorem pivf_spec (F : Nat → Nat → Nat) (H j : Nat) : ∀ n, n ≤ H → (pivf F H j n = H ∧ ∀ i, H - n ≤ i → i < H → F i j = 0) ∨ (H - n ≤ pivf F H j n ∧ pivf F H j n < H ∧ F (pivf F H j n) j ≠ 0 ∧ ∀ i, H - n ≤ i → i < pivf F H j n → F i j = 0)
  | 0, _ => Or.inl ⟨rfl, fun i h1 h2 => by omega⟩
  | n + 1, hn => by
    unfold pivf
    by_cases h : F (H - (n + 1)) j ≠ 0
    · rw [if_pos h]
      exact Or.inr ⟨by omega, by omega, h, fun i h1 h2 => by omega⟩
    · rw [if_neg h]
      have hz : F (H - (n + 1)) j = 0 := Classical.not_not.1 h
      have ext : ∀ b, (∀ i, H - n ≤ i → i < b → F i j = 0) → ∀ i, H - (n + 1) ≤ i → i < b → F i j = 0 := fun b hb i h1 h2 => by
        by_cases e : i = H - (n + 1)
        · rw [e]; exact hz
        · exact hb i (by omega) h2
      rcases pivf_spec F H j n (by omega) with h1 | h1
      · exact Or.inl ⟨h1.1, ext H h1.2⟩
      · exact Or.inr ⟨by omega, h1.2.1, h1.2.2.1, ext _ h1.2.2.2⟩
/-- The first j columns. -/
def gs (F : Nat → Nat → Nat) (H : Nat) : Nat → Option (Nat → Nat → Nat)
  | 0 => some F
  | j + 1 => (gs F H j).bind fun G => if pivf G H j (H - j) < H then some (stepf G j (pivf G H j (H - j))) else none
theorem gs_some {F : Nat → Nat → Nat} (hF : Byf F) {H : Nat} : ∀ (j : Nat) (G : Nat → Nat → Nat), gs F H j = some G → j ≤ H ∧ Byf G ∧ Uni G H j ∧ ∀ m v, (∀ c, v c < 256) → (Solf G H m v ↔ Solf F H m v)
  | 0, G, h => by
    cases h
    exact ⟨Nat.zero_le _, hF, fun c hc => absurd hc (by omega), fun _ _ _ => Iff.rfl⟩
  | j + 1, G, h => by
    unfold gs at h
    cases hq : gs F H j with
    | none => rw [hq] at h; cases h
    | some E =>
      rw [hq] at h
      obtain ⟨h1, h2, h3, h4⟩ := gs_some hF j E hq
      simp only [Option.bind_some] at h
      by_cases hp : pivf E H j (H - j) < H
      · rw [if_pos hp] at h
        cases h
        have hj : j < H := by
          rcases pivf_spec E H j (H - j) (by omega) with q | q
          · omega
          · omega
        rcases pivf_spec E H j (H - j) (by omega) with q | q
        · omega
        · exact ⟨by omega, byf_step h2 _ _, uni_step h2 hj (by omega) q.2.1 q.2.2.1 h3, fun m v hv => by rw [sol_step h2 hj q.2.1 q.2.2.1 hv]; exact h4 m v hv⟩
      · rw [if_neg hp] at h; cases h
/-- No way on: each solution has another one. -/
theorem gs_none {F : Nat → Nat → Nat} (hF : Byf F) {H m : Nat} : ∀ j, j ≤ m → gs F H j = none → ∀ v : Nat → Nat, (∀ c, v c < 256) → Solf F H m v → ∃ v' : Nat → Nat, (∀ c, v' c < 256) ∧ Solf F H m v' ∧ ∃ c, c < m ∧ v' c ≠ v c
  | 0, _, h => by cases h
  | j + 1, hjm, h => fun v hv hs => by
    cases hq : gs F H j with
    | none => exact gs_none hF j (by omega) hq v hv hs
    | some E =>
      obtain ⟨h1, h2, h3, h4⟩ := gs_some hF j E hq
      unfold gs at h
      rw [hq] at h
      simp only [Option.bind_some] at h
      by_cases hp : pivf E H j (H - j) < H
      · rw [if_pos hp] at h; cases h
      · have hz : ∀ i, j ≤ i → i < H → E i j = 0 := by
          rcases pivf_spec E H j (H - j) (by omega) with q | q
          · intro i hi hi2; exact q.2 i (by omega) hi2
          · omega
        obtain ⟨v', g1, g2, g3⟩ := uni_none h2 h3 (by omega) hz hv ((h4 m v hv).2 hs)
        exact ⟨v', g1, (h4 m v' g1).1 g2, j, by omega, g3⟩

end RsMath

namespace RsMath
open GfMath PolyMath
set_option linter.unusedVariables false

theorem ev_set {D : List Nat} (hD : By D) {q x : Nat} (hq : q < D.length) (hx : x < 256) (h0 : sq D q = 0) (i : Nat) : ev (D.set q x) (ex i) = ev D (ex i) ^^^ gm x (ex (i * (D.length - 1 - q))) := by
  have hS : By (D.set q x) := fun z hz => by
    rcases List.mem_or_eq_of_mem_set hz with h | h
    · exact hD z h
    · rw [h]; exact hx
  rw [ev_places hS, ev_places hD, List.length_set]
  have h1 : gm x (ex (i * (D.length - 1 - q))) = xs (fun j => gm (if j = q then x else 0) (ex (i * (D.length - 1 - j)))) D.length := by
    rw [xs_one _ D.length q hq fun c _ hne => by rw [if_neg hne, gm_zero_left], if_pos rfl]
  rw [h1, ← xs_xor]
  refine xs_congr _ fun j hj => ?_
  rw [← gm_add_left, sq_set D q x j hq]
  by_cases e : j = q
  · rw [if_pos e, if_pos e, e, h0, Nat.zero_xor]
  · rw [if_neg e, if_neg e, Nat.xor_zero]

/-- The first j places filled. -/
def fillk (R Pl : List Nat) (v : Nat → Nat) : Nat → List Nat
  | 0 => R
  | j + 1 => (fillk R Pl v j).set (sq Pl j) (v j)
theorem fillk_length (R Pl : List Nat) (v : Nat → Nat) : ∀ j, (fillk R Pl v j).length = R.length
  | 0 => rfl
  | j + 1 => by rw [fillk, List.length_set, fillk_length R Pl v j]
theorem fillk_by {R : List Nat} (Pl : List Nat) {v : Nat → Nat} (hR : By R) (hv : ∀ c, v c < 256) : ∀ j, By (fillk R Pl v j)
  | 0 => hR
  | j + 1 => fun z hz => by
    rcases List.mem_or_eq_of_mem_set hz with h | h
    · exact fillk_by Pl hR hv j z h
    · rw [h]; exact hv j
theorem fillk_out (R Pl : List Nat) (v : Nat → Nat) (q : Nat) : ∀ j, (∀ c, c < j → sq Pl c ≠ q) → (∀ c, c < j → sq Pl c < R.length) → sq (fillk R Pl v j) q = sq R q
  | 0, _, _ => rfl
  | j + 1, h, hl => by
    rw [fillk, sq_set _ _ _ _ (by rw [fillk_length]; exact hl j (by omega)), if_neg (fun e => h j (by omega) e.symm)]
    exact fillk_out R Pl v q j (fun c hc => h c (by omega)) fun c hc => hl c (by omega)
theorem fillk_in (R Pl : List Nat) (v : Nat → Nat) : ∀ j, (∀ a b, a < b → b < j → sq Pl a ≠ sq Pl b) → (∀ c, c < j → sq Pl c < R.length) → ∀ c, c < j → sq (fillk R Pl v j) (sq Pl c) = v c
  | 0, _, _, c, hc => absurd hc (by omega)
  | j + 1, h, hl, c, hc => by
    rw [fillk, sq_set _ _ _ _ (by rw [fillk_length]; exact hl j (by omega))]
    by_cases e : c = j
    · rw [e, if_pos rfl]
    · rw [if_neg (h c j (by omega) (by omega))]
      exact fillk_in R Pl v j (fun a b hab hb => h a b hab (by omega)) (fun c hc => hl c (by omega)) c (by omega)
theorem ev_fill {R Pl : List Nat} {v : Nat → Nat} (hR : By R) (hv : ∀ c, v c < 256) (i : Nat) : ∀ j, (∀ a b, a < b → b < j → sq Pl a ≠ sq Pl b) → (∀ c, c < j → sq Pl c < R.length ∧ sq R (sq Pl c) = 0) →
    ev (fillk R Pl v j) (ex i) = ev R (ex i) ^^^ xs (fun c => gm (ex (i * (R.length - 1 - sq Pl c))) (v c)) j
  | 0, _, _ => by rw [fillk]; exact (Nat.xor_zero _).symm
  | j + 1, h, hl => by
    have hz : sq (fillk R Pl v j) (sq Pl j) = 0 := by
      rw [fillk_out R Pl v _ j (fun c hc => h c j hc (by omega)) fun c hc => (hl c (by omega)).1]
      exact (hl j (by omega)).2
    rw [fillk, ev_set (fillk_by Pl hR hv j) (by rw [fillk_length]; exact (hl j (by omega)).1) (hv j) hz, ev_fill hR hv i j (fun a b hab hb => h a b hab (by omega)) (fun c hc => hl c (by omega)), fillk_length, Nat.xor_assoc, gm_comm (hv j) (ex_lt _)]
    rfl

/-- Unlike places of a word. -/
structure Plc (Pl : List Nat) (n : Nat) : Prop where
  lt : ∀ c, c < Pl.length → sq Pl c < n
  ne : ∀ a b, a < b → b < Pl.length → sq Pl a ≠ sq Pl b
/-- A word, 0 at some places. -/
def zerow (W Pl : List Nat) : List Nat := fillk W Pl (fun _ => 0) Pl.length
theorem zerow_length (W Pl : List Nat) : (zerow W Pl).length = W.length := fillk_length _ _ _ _
theorem zerow_by {W : List Nat} (Pl : List Nat) (hW : By W) : By (zerow W Pl) := fillk_by Pl hW (fun _ => by omega) _
/-- The equations: a row for each value that must be 0. -/
def mat (R Pl : List Nat) : Nat → Nat → Nat := fun i c => if c = Pl.length then ev R (ex i) else ex (i * (R.length - 1 - sq Pl c))
theorem mat_by {R : List Nat} (Pl : List Nat) (hR : By R) : Byf (mat R Pl) := fun i c => by unfold mat; split; exact ev_lt hR (ex_lt i); exact ex_lt _
theorem xor_zero_iff {a b : Nat} : a ^^^ b = 0 ↔ b = a := by
  constructor
  · intro h
    by_cases e : a = b
    · exact e.symm
    · exact absurd h (xor_ne e)
  · intro h; rw [h, Nat.xor_self]
theorem mat_sol {W Pl : List Nat} (hW : By W) (hP : Plc Pl W.length) {p : Nat} {v : Nat → Nat} (hv : ∀ c, v c < 256) :
    Solf (mat (zerow W Pl) Pl) p Pl.length v ↔ ∀ i, i < p → ev (fillk (zerow W Pl) Pl v Pl.length) (ex i) = 0 := by
  have hz : ∀ c, c < Pl.length → sq Pl c < (zerow W Pl).length ∧ sq (zerow W Pl) (sq Pl c) = 0 := fun c hc => by
    rw [zerow_length]
    exact ⟨hP.lt c hc, fillk_in W Pl _ Pl.length hP.ne hP.lt c hc⟩
  have key : ∀ i, ev (fillk (zerow W Pl) Pl v Pl.length) (ex i) = mat (zerow W Pl) Pl i Pl.length ^^^ dotf (mat (zerow W Pl) Pl i) v Pl.length := fun i => by
    rw [ev_fill (zerow_by Pl hW) hv i Pl.length hP.ne hz]
    unfold dotf
    congr 1
    · unfold mat; rw [if_pos rfl]
    · refine xs_congr _ fun c hc => ?_
      unfold mat
      rw [if_neg (by omega)]
  unfold Solf
  constructor
  · intro h i hi
    rw [key i, h i hi, Nat.xor_self]
  · intro h i hi
    have := h i hi
    rw [key i] at this
    exact xor_zero_iff.1 this

theorem sub_length : ∀ (L P : List Nat), L.Nodup → (∀ x ∈ L, x ∈ P) → L.length ≤ P.length
  | [], _, _, _ => Nat.zero_le _
  | a :: t, P, hn, h => by
    rw [List.nodup_cons] at hn
    have ha := h a (by simp)
    have := sub_length t (P.erase a) hn.2 fun x hx => by
      have hne : x ≠ a := fun e => hn.1 (e ▸ hx)
      exact (List.mem_erase_of_ne hne).2 (h x (by simp [hx]))
    rw [List.length_erase_of_mem ha] at this
    have := List.length_pos_of_mem ha
    simp only [List.length_cons]
    omega
/-- Two words that differ at some places alone. -/
theorem dif_places {A B Pl : List Nat} {n : Nat} (h : ∀ q, q < n → (∀ c, c < Pl.length → sq Pl c ≠ q) → sq A q = sq B q) : dif A B n ≤ Pl.length := by
  rw [dif_filter]
  refine sub_length _ _ (List.Pairwise.filter _ List.nodup_range) fun x hx => ?_
  rw [List.mem_filter, List.mem_range] at hx
  obtain ⟨hx1, hx2⟩ := hx
  by_cases hm : x ∈ Pl
  · exact hm
  · exfalso
    have := h x hx1 fun c hc e => hm (by rw [← e, sq_get Pl c hc]; exact List.getElem_mem hc)
    simp [this] at hx2

def gone (G : Nat → Nat → Nat) (m : Nat) : Nat → Bool
  | 0 => true
  | i + 1 => gone G m i && (decide (i < m) || decide (G i m = 0))
theorem gone_iff (G : Nat → Nat → Nat) (m : Nat) : ∀ H, gone G m H = true ↔ ∀ i, m ≤ i → i < H → G i m = 0
  | 0 => ⟨fun _ i _ h => absurd h (by omega), fun _ => rfl⟩
  | H + 1 => by
    rw [gone, Bool.and_eq_true, gone_iff G m H, Bool.or_eq_true, decide_eq_true_iff, decide_eq_true_iff]
    constructor
    · rintro ⟨h1, h2⟩ i hi hi2
      by_cases e : i = H
      · rw [e]
        rcases h2 with h2 | h2
        · omega
        · exact h2
      · exact h1 i hi (by omega)
    · intro h
      refine ⟨fun i hi hi2 => h i hi (by omega), ?_⟩
      by_cases e : H < m
      · exact Or.inl e
      · exact Or.inr (h H (by omega) (by omega))
/-- The document's Solve. -/
def solveF (W Pl : List Nat) (p : Nat) : Option (List Nat) :=
  (gs (mat (zerow W Pl) Pl) p Pl.length).bind fun G => if gone G Pl.length p then some (fillk (zerow W Pl) Pl (fun c => G c Pl.length) Pl.length) else none
/-- A word that is W but for some places. -/
def Agree (W Pl D : List Nat) : Prop := D.length = W.length ∧ By D ∧ ∀ q, (∀ c, c < Pl.length → sq Pl c ≠ q) → sq D q = sq W q
theorem fill_agree {W Pl : List Nat} (hW : By W) (hP : Plc Pl W.length) {v : Nat → Nat} (hv : ∀ c, v c < 256) : Agree W Pl (fillk (zerow W Pl) Pl v Pl.length) :=
  ⟨by rw [fillk_length, zerow_length], fillk_by Pl (zerow_by Pl hW) hv _, fun q hq => by
    rw [fillk_out _ Pl v q Pl.length hq fun c hc => by rw [zerow_length]; exact hP.lt c hc, zerow, fillk_out W Pl _ q Pl.length hq hP.lt]⟩
theorem fill_of {W Pl D : List Nat} (hP : Plc Pl W.length) (hD : Agree W Pl D) : fillk (zerow W Pl) Pl (fun c => sq D (sq Pl c)) Pl.length = D := by
  refine list_eq (by rw [fillk_length, zerow_length, hD.1]) fun q hq => ?_
  have hz : ∀ c, c < Pl.length → sq Pl c < (zerow W Pl).length := fun c hc => by rw [zerow_length]; exact hP.lt c hc
  by_cases h : ∃ c, c < Pl.length ∧ sq Pl c = q
  · obtain ⟨c, hc, rfl⟩ := h
    rw [fillk_in _ Pl _ Pl.length hP.ne hz c hc]
  · have h2 : ∀ c, c < Pl.length → sq Pl c ≠ q := fun c hc e => h ⟨c, hc, e⟩
    rw [fillk_out _ Pl _ q Pl.length h2 hz, zerow, fillk_out W Pl _ q Pl.length h2 hP.lt, hD.2.2 q h2]
/-- Of right words that are W but for at most p places there is at most one. -/
theorem agree_one {W Pl D D' : List Nat} {p : Nat} (hn : W.length ≤ 255) (hm : Pl.length ≤ p) (h1 : Agree W Pl D) (h2 : Agree W Pl D') (r1 : allz (vals D p) = true) (r2 : allz (vals D' p) = true) : D = D' :=
  far_dif h1.2.1 h2.2.1 (by rw [h1.1, h2.1]) (by rw [h1.1]; exact hn) (Nat.le_trans (dif_places fun q _ hq => by rw [h1.2.2 q hq, h2.2.2 q hq]) hm) r1 r2
theorem solveF_some {W Pl D : List Nat} {p : Nat} (hW : By W) (hP : Plc Pl W.length) (hm : Pl.length ≤ p) (h : solveF W Pl p = some D) : Agree W Pl D ∧ allz (vals D p) = true := by
  unfold solveF at h
  cases hg : gs (mat (zerow W Pl) Pl) p Pl.length with
  | none => rw [hg] at h; cases h
  | some G =>
    rw [hg] at h
    simp only [Option.bind_some] at h
    obtain ⟨h1, h2, h3, h4⟩ := gs_some (mat_by Pl (zerow_by Pl hW)) _ G hg
    by_cases hz : gone G Pl.length p = true
    · rw [if_pos hz] at h
      cases h
      have hv : ∀ c, (fun c => G c Pl.length) c < 256 := fun c => h2 c _
      refine ⟨fill_agree hW hP hv, allz_zero.2 ?_⟩
      exact (mat_sol hW hP hv).1 ((h4 _ _ hv).1 ((uni_end h3 hm hv).2 ⟨fun _ _ => rfl, (gone_iff G _ p).1 hz⟩))
    · rw [if_neg hz] at h; cases h
theorem solveF_none {W Pl : List Nat} {p : Nat} (hW : By W) (hn : W.length ≤ 255) (hP : Plc Pl W.length) (hm : Pl.length ≤ p) (h : solveF W Pl p = none) {D : List Nat} (hD : Agree W Pl D) : allz (vals D p) = false := by
  cases hr : allz (vals D p) with
  | false => rfl
  | true =>
    exfalso
    have hv : ∀ c, (fun c => sq D (sq Pl c)) c < 256 := fun c => hD.2.1.sq _
    have hs : Solf (mat (zerow W Pl) Pl) p Pl.length fun c => sq D (sq Pl c) := (mat_sol hW hP hv).2 (by rw [fill_of hP hD]; exact allz_zero.1 hr)
    unfold solveF at h
    cases hg : gs (mat (zerow W Pl) Pl) p Pl.length with
    | none =>
      obtain ⟨v', q1, q2, c, hc, q3⟩ := gs_none (mat_by Pl (zerow_by Pl hW)) Pl.length (Nat.le_refl _) hg _ hv hs
      have e := agree_one hn hm (fill_agree hW hP q1) hD (allz_zero.2 ((mat_sol hW hP q1).1 q2)) hr
      have hz : ∀ c, c < Pl.length → sq Pl c < (zerow W Pl).length := fun c hc => by rw [zerow_length]; exact hP.lt c hc
      have := fillk_in (zerow W Pl) Pl v' Pl.length hP.ne hz c hc
      rw [e] at this
      exact q3 this.symm
    | some G =>
      rw [hg] at h
      simp only [Option.bind_some] at h
      obtain ⟨h1, h2, h3, h4⟩ := gs_some (mat_by Pl (zerow_by Pl hW)) _ G hg
      have hz := ((uni_end h3 hm hv).1 ((h4 _ _ hv).2 hs)).2
      rw [if_pos ((gone_iff G _ p).2 hz)] at h
      cases h
end RsMath

namespace Go.Proofs.YtnbjaijhdjneoaaGreat
open Go.RowKit GfMath

set_option maxRecDepth 100000 in
theorem rinv_any (a : Nat) (w : World) (ha : a < 256) :
    Calls Tryz.prog 107 #[.int .i64 (a : Int)] w fun e w' => e = .returned (.int .i64 (iv a : Int)) ∧ w = w' := by
  go_enter Tryz.func107, Tryz.ntmps107
  go_wp2
  go_loop [3] (fun i => ∃ k : Nat, k ≤ 256 ∧ i = .int .i64 k ∧ ∀ j, j < k → gm a j ≠ 1) (fun i => 256 - (intOf i).toNat)
  case atStart => exact ⟨0, Nat.zero_le _, rfl, fun j hj => absurd hj (by omega)⟩
  case round =>
    obtain ⟨k, hk, rfl, hno⟩ := hrel
    have HN := Lib.hid hno
    clear hno
    by_cases hlt : k < 256
    · have hk1 : (k : Int) < 256 := by omega
      have hk0 : 0 ≤ (k : Int) := by omega
      by_cases h1 : gm a k = 1
      · have hv := iv_unique ha hlt h1
        have HM : Hid (∀ u, Calls Tryz.prog 108 #[.int .i64 (a : Int), .int .i64 (k : Int)] u fun e w' => e = .returned (.int .i64 1) ∧ u = w') := Lib.hid fun u => by have := rmul_any a k u ha; rw [h1] at this; exact this
        have HV := Lib.hid hv
        clear h1 hv
        go_wp2_with (go_at_call 108; refine (HM.out _).mono ?_; rintro e w1 ⟨rfl, rfl⟩)
        go_ret
        exact ⟨by rw [← HV.out]; rfl, rfl⟩
      · have HM := Lib.hid (rmul_any a k · ha)
        have HH : Hid (∀ j, j = k → gm a j ≠ 1) := Lib.hid fun j e => by rw [e]; exact h1
        have hne : ¬ (gm a k : Int) = 1 := by omega
        generalize gm a k = y at hne HM
        clear h1
        go_wp2_with (go_at_call 108; refine (HM.out _).mono ?_; rintro e w1 ⟨rfl, rfl⟩)
        go_round
        case rel => exact ⟨k + 1, by omega, by go_num, fun j hj => by
          by_cases e : j = k
          · exact HH.out j e
          · exact HN.out j (by omega)⟩
        case measure => simp [intOf]; omega
    · have ek : k = 256 := by omega
      have h0 : a = 0 := Classical.byContradiction fun h => HN.out (iv a) (by rw [ek]; exact iv_lt a) (gm_iv ha h)
      have hv : iv a = 0 := by rw [iv, if_pos h0]
      have HV := Lib.hid hv
      subst ek
      clear h0 hv
      go_wp2
      go_ret
      exact ⟨by rw [HV.out]; rfl, rfl⟩

end Go.Proofs.YtnbjaijhdjneoaaGreat

namespace Go.Proofs.YtnbjaijhdjneoaaGreat
open Go.RowKit GfMath PolyMath RsMath
set_option linter.unusedVariables false
set_option maxRecDepth 100000

/-! Mathematics of the loops. -/
theorem pivf_at {F : Nat → Nat → Nat} {H j a : Nat} (hjH : j ≤ H) (hj : j ≤ a) (ha : a ≤ H) (hz : ∀ i, j ≤ i → i < a → F i j = 0) (he : a = H ∨ F a j ≠ 0) : pivf F H j (H - j) = a := by
  rcases pivf_spec F H j (H - j) (by omega) with ⟨h1, h2⟩ | ⟨h1, h2, h3, h4⟩
  · rcases he with he | he
    · rw [h1, he]
    · by_cases e : a = H
      · rw [h1, e]
      · exact absurd (h2 a (by omega) (by omega)) he
  · rcases Nat.lt_trichotomy (pivf F H j (H - j)) a with h | h | h
    · exact absurd (hz _ (by omega) h) h3
    · exact h
    · rcases he with he | he
      · omega
      · exact absurd (h4 a (by omega) h) he
theorem gs_up {F : Nat → Nat → Nat} {H : Nat} {j : Nat} (h : gs F H j = none) : ∀ k, gs F H (j + k) = none
  | 0 => h
  | k + 1 => by
    show gs F H ((j + k) + 1) = none
    rw [gs, gs_up h k]
    rfl
/-- The pivot's row, its first c factors scaled. -/
def scalek (E : Nat → Nat → Nat) (j s c : Nat) : Nat → Nat → Nat := fun i q => if i = j ∧ q < c then gm (E j q) s else E i q
theorem scalek_zero (E : Nat → Nat → Nat) (j s : Nat) : scalek E j s 0 = E := by
  funext i q
  unfold scalek
  rw [if_neg (by omega)]
theorem scalek_at (E : Nat → Nat → Nat) (j s c : Nat) : scalek E j s c j c = E j c := by unfold scalek; rw [if_neg (by omega)]
theorem scalek_next (E : Nat → Nat → Nat) (j s c : Nat) (i q : Nat) : (if i = j ∧ q = c then gm (E j c) s else scalek E j s c i q) = scalek E j s (c + 1) i q := by
  unfold scalek
  by_cases h1 : i = j ∧ q = c
  · rw [if_pos h1, if_pos ⟨h1.1, by omega⟩, h1.2]
  · rw [if_neg h1]
    by_cases h2 : i = j ∧ q < c
    · rw [if_pos h2, if_pos ⟨h2.1, by omega⟩]
    · rw [if_neg h2, if_neg (by omega)]
theorem scalek_end (E : Nat → Nat → Nat) (j m : Nat) (i q : Nat) (hq : q ≤ m) : scalek E j (iv (E j j)) (m + 1) i q = scalef E j i q := by
  unfold scalek scalef
  by_cases h : i = j
  · rw [if_pos ⟨h, by omega⟩, if_pos h]
  · rw [if_neg (by omega), if_neg h]
/-- The first i rows cleared of column j, and the first c factors of row i. -/
def elimk (E : Nat → Nat → Nat) (j i c : Nat) : Nat → Nat → Nat := fun r q => if r ≠ j ∧ (r < i ∨ (r = i ∧ q < c)) then E r q ^^^ gm (E r j) (E j q) else E r q
theorem elimk_zero (E : Nat → Nat → Nat) (j : Nat) : elimk E j 0 0 = E := by
  funext r q
  unfold elimk
  rw [if_neg (by omega)]
theorem elimk_self (E : Nat → Nat → Nat) (j i c q : Nat) : elimk E j i c j q = E j q := by unfold elimk; rw [if_neg (by omega)]
theorem elimk_at (E : Nat → Nat → Nat) (j i c : Nat) : elimk E j i c i c = E i c := by unfold elimk; rw [if_neg (by omega)]
theorem elimk_at0 (E : Nat → Nat → Nat) (j i : Nat) : elimk E j i 0 i j = E i j := by unfold elimk; rw [if_neg (by omega)]
theorem elimk_next (E : Nat → Nat → Nat) (j i c : Nat) (hi : i ≠ j) (r q : Nat) : (if r = i ∧ q = c then E i c ^^^ gm (E i j) (E j c) else elimk E j i c r q) = elimk E j i (c + 1) r q := by
  unfold elimk
  by_cases h1 : r = i ∧ q = c
  · rw [if_pos h1, if_pos (by omega), h1.1, h1.2]
  · rw [if_neg h1]
    by_cases h2 : r ≠ j ∧ (r < i ∨ (r = i ∧ q < c))
    · rw [if_pos h2, if_pos (by omega)]
    · rw [if_neg h2, if_neg (by omega)]
theorem elimk_row (E : Nat → Nat → Nat) (j i m : Nat) (r q : Nat) (hq : q ≤ m) : elimk E j i (m + 1) r q = elimk E j (i + 1) 0 r q := by
  unfold elimk
  by_cases h : r ≠ j ∧ (r < i ∨ (r = i ∧ q < m + 1))
  · rw [if_pos h, if_pos (by omega)]
  · rw [if_neg h, if_neg (by omega)]
theorem elimk_skip (E : Nat → Nat → Nat) (j i : Nat) (h : i = j ∨ E i j = 0) (r q : Nat) : elimk E j i 0 r q = elimk E j (i + 1) 0 r q := by
  unfold elimk
  by_cases h1 : r ≠ j ∧ (r < i ∨ (r = i ∧ q < 0))
  · rw [if_pos h1, if_pos (by omega)]
  · rw [if_neg h1]
    by_cases h2 : r ≠ j ∧ (r < i + 1 ∨ (r = i + 1 ∧ q < 0))
    · rw [if_pos h2]
      have e : r = i := by omega
      rcases h with h | h
      · omega
      · rw [e, h, gm_zero_left, Nat.xor_zero]
    · rw [if_neg h2]
theorem elimk_end (E : Nat → Nat → Nat) (j H : Nat) (r q : Nat) (hr : r < H) : elimk E j H 0 r q = elimf E j r q := by
  unfold elimk elimf
  by_cases h : r = j
  · rw [if_neg (by omega), if_pos h, h]
  · rw [if_pos (by omega), if_neg h]
theorem gone_at (G : Nat → Nat → Nat) (m H i : Nat) (h1 : m ≤ i) (h2 : i < H) (h3 : G i m ≠ 0) : gone G m H = false := by
  cases h : gone G m H with
  | false => rfl
  | true => exact absurd ((gone_iff G m H).1 h i h1 h2) h3

/-! Rows in memory. -/
def heads (H m : Nat) (hb hc : Nat → Nat) : List Value := (List.range H).map fun i => .slice (some ⟨hb i, 0, none⟩) (m + 1) (hc i)
theorem heads_length (H m : Nat) (hb hc : Nat → Nat) : (heads H m hb hc).length = H := by simp [heads]
theorem heads_get (H m : Nat) (hb hc : Nat → Nat) (i : Nat) (h : i < H) : (heads H m hb hc)[i]? = some (.slice (some ⟨hb i, 0, none⟩) (m + 1) (hc i)) := by simp [heads, h]
theorem heads_snoc (H m : Nat) (hb hc : Nat → Nat) : heads (H + 1) m hb hc = heads H m hb hc ++ [.slice (some ⟨hb H, 0, none⟩) (m + 1) (hc H)] := by simp [heads, List.range_succ]
theorem heads_congr {H m : Nat} {hb hc hb' hc' : Nat → Nat} (h : ∀ i, i < H → hb i = hb' i ∧ hc i = hc' i) : heads H m hb hc = heads H m hb' hc' := by
  unfold heads
  refine List.map_congr_left fun i hi => ?_
  obtain ⟨h1, h2⟩ := h i (List.mem_range.1 hi)
  rw [h1, h2]
def swapn (f : Nat → Nat) (a b : Nat) : Nat → Nat := fun i => if i = a then f b else if i = b then f a else f i
theorem heads_swap (H m : Nat) (hb hc : Nat → Nat) (a b : Nat) (ha : a < H) (hb' : b < H) :
    ((heads H m hb hc).set a (.slice (some ⟨hb b, 0, none⟩) (m + 1) (hc b))).set b (.slice (some ⟨hb a, 0, none⟩) (m + 1) (hc a)) = heads H m (swapn hb a b) (swapn hc a b) := by
  apply List.ext_getElem?
  intro i
  by_cases hi : i < H
  · rw [heads_get _ _ _ _ i hi, List.getElem?_set, List.getElem?_set, List.length_set, heads_length]
    unfold swapn
    by_cases e1 : b = i
    · subst e1
      rw [if_pos rfl, if_pos hi]
      by_cases e2 : b = a
      · subst e2
        rw [if_pos rfl, if_pos rfl]
      · rw [if_neg e2, if_neg e2, if_pos rfl, if_pos rfl]
    · rw [if_neg e1]
      by_cases e2 : a = i
      · subst e2
        rw [if_pos rfl, if_pos hi, if_pos rfl, if_pos rfl]
      · have f1 : ¬ i = a := fun e => e2 e.symm
        have f2 : ¬ i = b := fun e => e1 e.symm
        simp only [if_neg e2, if_neg f1, if_neg f2]
        exact heads_get _ _ _ _ i hi
  · rw [List.getElem?_eq_none (by rw [List.length_set, List.length_set, heads_length]; omega), List.getElem?_eq_none (by rw [heads_length]; omega)]

structure Mt (w : World) (B o H m : Nat) (hb hc : Nat → Nat) (F : Nat → Nat → Nat) : Prop where
  outer : ∃ zs, Row w o 38 (heads H m hb hc ++ zs)
  inner : ∀ i, i < H → ∃ zs, Row w (hb i) 3 (nats (tab (m + 1) (F i)) ++ zs)
  inj : ∀ i j, i < H → j < H → hb i = hb j → i = j
  obase : B ≤ o
  ibase : ∀ i, i < H → B ≤ hb i
theorem mt_row_ne {w : World} {a b : Nat} {t t' : TypeId} {l l' : List Value} (h : Row w a t l) (h' : Row w b t' l') (hne : t ≠ t') : a ≠ b := by
  intro e
  subst e
  have : some (Obj.cells l.toArray t (0, 0)) = some (Obj.cells l'.toArray t' (0, 0)) := h.symm.trans h'
  injection this with this
  injection this with h1 h2 h3
  exact hne h2
section
variable {w : World} {B o H m : Nat} {hb hc : Nat → Nat} {F : Nat → Nat → Nat}
theorem Mt.head (h : Mt w B o H m hb hc F) (i : Nat) (hi : i < H) : w.cell? ⟨o, i, none⟩ = some (.slice (some ⟨hb i, 0, none⟩) (m + 1) (hc i)) := by
  obtain ⟨zs, h1⟩ := h.outer
  rw [h1.cell, List.getElem?_append_left (by rw [heads_length]; exact hi), heads_get _ _ _ _ i hi]
theorem Mt.cell (h : Mt w B o H m hb hc F) (i c : Nat) (hi : i < H) (hc' : c ≤ m) : w.cell? ⟨hb i, c, none⟩ = some (.int .i64 (F i c : Int)) := by
  obtain ⟨zs, h1⟩ := h.inner i hi
  rw [h1.cell, List.getElem?_append_left (by rw [nats_length, tab_length]; omega), nats_get _ _ (by rw [tab_length]; omega)]
  have := sq_get (tab (m + 1) (F i)) c (by rw [tab_length]; omega)
  rw [sq_tab, if_pos (by omega)] at this
  rw [← this]
theorem Mt.frozenO (h : Mt w B o H m hb hc F) (i : Nat) : w.frozen? ⟨o, i, none⟩ = false := by obtain ⟨zs, h1⟩ := h.outer; exact h1.frozen _
theorem Mt.frozenI (h : Mt w B o H m hb hc F) (i c : Nat) (hi : i < H) : w.frozen? ⟨hb i, c, none⟩ = false := by obtain ⟨zs, h1⟩ := h.inner i hi; exact h1.frozen _
theorem Mt.ne (h : Mt w B o H m hb hc F) (i : Nat) (hi : i < H) : hb i ≠ o := by
  obtain ⟨zs, h1⟩ := h.outer
  obtain ⟨ys, h2⟩ := h.inner i hi
  exact mt_row_ne h2 h1 (by decide)
theorem Mt.step {w' : World} (h : Mt w B o H m hb hc F) (hbw : Below w.heap.size w w') : Mt w' B o H m hb hc F :=
  ⟨by obtain ⟨zs, h1⟩ := h.outer; exact ⟨zs, h1.step hbw⟩, fun i hi => by obtain ⟨zs, h1⟩ := h.inner i hi; exact ⟨zs, h1.step hbw⟩, h.inj, h.obase, h.ibase⟩
theorem Mt.congr {F' : Nat → Nat → Nat} (h : Mt w B o H m hb hc F) (he : ∀ i c, i < H → c ≤ m → F i c = F' i c) : Mt w B o H m hb hc F' :=
  ⟨h.outer, fun i hi => by
    obtain ⟨zs, h1⟩ := h.inner i hi
    have e : tab (m + 1) (F i) = tab (m + 1) (F' i) := tab_congr _ fun c hc => he i c hi (by omega)
    exact ⟨zs, by rw [← e]; exact h1⟩, h.inj, h.obase, h.ibase⟩
theorem Mt.far (h : Mt w B o H m hb hc F) (p : Addr) (v : Value) (h1 : o ≠ p.block) (h2 : ∀ i, i < H → hb i ≠ p.block) : Mt (w.setCell p v) B o H m hb hc F :=
  ⟨by obtain ⟨zs, q⟩ := h.outer; exact ⟨zs, q.far p v h1⟩, fun i hi => by obtain ⟨zs, q⟩ := h.inner i hi; exact ⟨zs, q.far p v (h2 i hi)⟩, h.inj, h.obase, h.ibase⟩
theorem Mt.set (h : Mt w B o H m hb hc F) (i c : Nat) (hi : i < H) (hcm : c ≤ m) (x : Nat) : Mt (w.setCell ⟨hb i, c, none⟩ (.int .i64 (x : Int))) B o H m hb hc (fun r q => if r = i ∧ q = c then x else F r q) := by
  refine ⟨?_, fun r hr => ?_, h.inj, h.obase, h.ibase⟩
  · obtain ⟨zs, q⟩ := h.outer
    exact ⟨zs, q.far _ _ (fun e => h.ne i hi e.symm)⟩
  · obtain ⟨zs, q⟩ := h.inner r hr
    by_cases e : r = i
    · subst e
      have q2 := q.set c (.int .i64 (x : Int))
      rw [List.set_append_left _ _ (by rw [nats_length, tab_length]; omega), nats_set] at q2
      refine ⟨zs, ?_⟩
      have e2 : (tab (m + 1) (F r)).set c x = tab (m + 1) (fun q => if r = r ∧ q = c then x else F r q) := by
        refine list_eq (by rw [List.length_set, tab_length, tab_length]) fun k hk => ?_
        rw [sq_set _ _ _ _ (by rw [tab_length]; omega), sq_tab, sq_tab]
        rw [List.length_set, tab_length] at hk
        rw [if_pos hk, if_pos hk]
        by_cases e3 : k = c
        · rw [if_pos e3, if_pos ⟨rfl, e3⟩]
        · rw [if_neg e3, if_neg (fun h => e3 h.2)]
      rw [← e2]
      exact q2
    · have e2 : (fun q => if r = i ∧ q = c then x else F r q) = F r := by funext q; rw [if_neg (fun h => e h.1)]
      rw [e2]
      exact ⟨zs, q.far _ _ (fun e3 => e (h.inj r i hr hi e3))⟩
theorem Mt.swap (h : Mt w B o H m hb hc F) (a b : Nat) (ha : a < H) (hbH : b < H) :
    Mt ((w.setCell ⟨o, a, none⟩ (.slice (some ⟨hb b, 0, none⟩) (m + 1) (hc b))).setCell ⟨o, b, none⟩ (.slice (some ⟨hb a, 0, none⟩) (m + 1) (hc a))) B o H m (swapn hb a b) (swapn hc a b) (swapf F a b) := by
  have hsw : ∀ i, i < H → ∃ r, r < H ∧ swapn hb a b i = hb r ∧ swapf F a b i = F r ∧ (r = if i = a then b else if i = b then a else i) := fun i hi => by
    unfold swapn swapf
    by_cases e1 : i = a
    · exact ⟨b, hbH, by rw [if_pos e1], by rw [if_pos e1], by rw [if_pos e1]⟩
    · by_cases e2 : i = b
      · exact ⟨a, ha, by rw [if_neg e1, if_pos e2], by rw [if_neg e1, if_pos e2], by rw [if_neg e1, if_pos e2]⟩
      · exact ⟨i, hi, by rw [if_neg e1, if_neg e2], by rw [if_neg e1, if_neg e2], by rw [if_neg e1, if_neg e2]⟩
  refine ⟨?_, fun i hi => ?_, fun i j hi hj e => ?_, h.obase, fun i hi => ?_⟩
  · obtain ⟨zs, q⟩ := h.outer
    have q2 := (q.set a (.slice (some ⟨hb b, 0, none⟩) (m + 1) (hc b))).set b (.slice (some ⟨hb a, 0, none⟩) (m + 1) (hc a))
    rw [List.set_append_left _ _ (by rw [heads_length]; exact ha), List.set_append_left _ _ (by rw [List.length_set, heads_length]; exact hbH), heads_swap _ _ _ _ a b ha hbH] at q2
    exact ⟨zs, q2⟩
  · obtain ⟨r, hr, e1, e2, _⟩ := hsw i hi
    rw [e1, e2]
    obtain ⟨zs, q⟩ := h.inner r hr
    exact ⟨zs, (q.far _ _ (h.ne r hr)).far _ _ (h.ne r hr)⟩
  · obtain ⟨r, hr, e1, _, e3⟩ := hsw i hi
    obtain ⟨r', hr', e1', _, e3'⟩ := hsw j hj
    rw [e1, e1'] at e
    have := h.inj r r' hr hr' e
    rw [e3, e3'] at this
    split at this <;> split at this <;> (try split at this) <;> (try split at this) <;> omega
  · obtain ⟨r, hr, e1, _⟩ := hsw i hi
    rw [e1]
    exact h.ibase r hr
theorem Mt.drew (h : Mt w B o H m hb hc F) : Mt w.drew B o H m hb hc F := h.step (by exact ⟨rfl, rfl, rfl, Nat.le_refl _, fun _ _ => rfl⟩)
end
theorem rexp_all (n : Nat) (w : World) (hn : n ≤ 100000) :
    Calls Tryz.prog 106 #[.int .i64 (n : Int)] w fun e w' => e = .returned (.int .i64 (ex n : Int)) ∧ w = w' := by
  obtain ⟨r, hr⟩ : ∃ r, r = n % 255 := ⟨_, rfl⟩
  have ht : (n : Int).tmod 255 = (r : Int) := by rw [show (n : Int).tmod 255 = ((n % 255 : Nat) : Int) from rfl, hr]
  have ht2 : (n : Int) % 255 = (r : Int) := by omega
  have HX : Hid (ex r = ex n) := Lib.hid (by rw [hr]; exact ex_mod n)
  have hr2 : r < 255 := by rw [hr]; exact Nat.mod_lt _ (by decide)
  clear hr
  go_enter Tryz.func106, Tryz.ntmps106
  go_wp2
  go_loop [3, 4] (fun p i => ∃ k : Nat, k ≤ r ∧ i = .int .i64 k ∧ p = .int .i64 (ex k : Int)) (fun _ i => r - (intOf i).toNat)
  case atStart => exact ⟨0, Nat.zero_le _, rfl, rfl⟩
  case round =>
    obtain ⟨k, hk, rfl, rfl⟩ := hrel
    by_cases hlt : k < r
    · have hk1 : (k : Int) < r := by omega
      have hx := ex_lt k
      have hst : gm (ex k) 2 = ex (k + 1) := by rw [(gm_two_all _ hx).1]; rfl
      have HM : Hid (∀ u, Calls Tryz.prog 108 #[.int .i64 (ex k : Int), .int .i64 2] u fun e w' => e = .returned (.int .i64 (ex (k + 1) : Int)) ∧ u = w') := Lib.hid fun u => by rw [← hst]; exact rmul_any (ex k) 2 u hx
      clear hst hx
      go_wp2_with (go_at_call 108; refine (HM.out _).mono ?_; rintro e w1 ⟨rfl, rfl⟩)
      go_round
      case rel => exact ⟨k + 1, by omega, by go_num, rfl⟩
      case measure => simp [intOf]; omega
    · have hge : ¬ (k : Int) < (r : Int) := by omega
      have HE : Hid (ex k = ex n) := Lib.hid (by rw [show k = r by omega, HX.out])
      clear hlt
      go_wp2
      go_ret
      exact ⟨ret_int (by rw [HE.out]), rfl⟩
end Go.Proofs.YtnbjaijhdjneoaaGreat

namespace Go.Proofs.YtnbjaijhdjneoaaGreat
open Go.RowKit GfMath PolyMath RsMath
set_option linter.unusedVariables false
set_option maxRecDepth 100000

theorem own_some {w : World} {base n : Nat} {e : TypeId} {v : Value} {xs : List Value} (h : w.ownsRow base e 1 v n xs) (hn : 0 < n) :
    ∃ g cap ys, v = .slice (some ⟨g, 0, none⟩) n cap ∧ n ≤ cap ∧ base ≤ g ∧ Row w g e (xs ++ ys) := by
  rcases h.2 with ⟨h1, h2⟩ | ⟨g, cap, cur, h1, h2, h3, h4, h5, h6, h7⟩
  · omega
  · subst h1
    obtain ⟨q1, ys, q2⟩ := own_row h
    exact ⟨g, cap, ys, rfl, h4, q1, q2⟩
theorem rs_take_set {w : World} {g : Nat} {l : List Nat} {ys : List Value} (h : Row w g 5 (u8s l ++ ys)) (k x : Nat) (hk : k < l.length) : Row (w.setCell ⟨g, k, none⟩ (.int .u8 (x : Int))) g 5 (u8s (l.set k x) ++ ys) := by
  have := h.set k (.int .u8 (x : Int))
  rwa [List.set_append_left _ _ (by rw [u8s_length]; omega), u8s_set] at this
theorem rs_lies {w : World} {g : Nat} {t : TypeId} {l ys : List Value} (h : Row w g t (l ++ ys)) : Lies w w.heap.size (some ⟨g, 0, none⟩) l := fun _ => ⟨g, 0, rfl, h.lt, fun j u hj => by
  rw [Nat.zero_add, h.cell, List.getElem?_append_left (List.getElem?_eq_some_iff.1 hj).1]; exact hj⟩

structure RwB (w : World) (B : Nat) (R : Value) (i m : Nat) (hb hc : Nat → Nat) (F : Nat → Nat → Nat) : Prop where
  own : w.ownsRow B 38 1 R i (heads i m hb hc)
  inner : ∀ r, r < i → ∃ zs, Row w (hb r) 3 (nats (tab (m + 1) (F r)) ++ zs)
  inj : ∀ r q, r < i → q < i → hb r = hb q → r = q
  ibase : ∀ r, r < i → B ≤ hb r
theorem RwB.step {w w' : World} {B : Nat} {R : Value} {i m : Nat} {hb hc : Nat → Nat} {F : Nat → Nat → Nat} (h : RwB w B R i m hb hc F) (hbw : Below w.heap.size w w') : RwB w' B R i m hb hc F :=
  ⟨own_below h.own hbw, fun r hr => by obtain ⟨zs, q⟩ := h.inner r hr; exact ⟨zs, q.step hbw⟩, h.inj, h.ibase⟩
theorem RwB.zero (w : World) (m : Nat) (F : Nat → Nat → Nat) : RwB (w.alloc (.cells #[] 38)) w.heap.size (.slice (some ⟨w.heap.size, 0, none⟩) 0 0) 0 m (fun _ => 0) (fun _ => 0) F :=
  ⟨own_zero w _, fun r hr => absurd hr (by omega), fun r q hr => absurd hr (by omega), fun r hr => absurd hr (by omega)⟩
theorem own_typed {w : World} {B n g : Nat} {e t : TypeId} {v : Value} {xs l : List Value} (h : w.ownsRow B e 1 v n xs) (hr : Row w g t l) (hne : t ≠ e) : v.ownBlock ≠ some g := by
  rcases h.2 with ⟨rfl, _⟩ | ⟨g', cap, cur, rfl, _, hg, _⟩
  · simp [Value.ownBlock]
  · intro e2
    simp only [Value.ownBlock, Option.some.injEq] at e2
    subst e2
    have := hg.symm.trans hr
    simp only [Option.some.injEq, Obj.cells.injEq] at this
    exact hne this.2.1.symm
/-- A row more. -/
theorem RwB.add {w w' : World} {B g1 c1 : Nat} {R R' : Value} {i m : Nat} {hb hc : Nat → Nat} {F : Nat → Nat → Nat} {ys : List Value} (h : RwB w B R i m hb hc F)
    (hrow : Row w g1 3 (nats (tab (m + 1) (F i)) ++ ys)) (hnew : ∀ r, r < i → hb r ≠ g1) (hB : B ≤ g1)
    (hown : w'.ownsRow B 38 1 R' (i + 1) (heads i m hb hc ++ [.slice (some ⟨g1, 0, none⟩) (m + 1) c1])) (hg : w.grownBy w' R.ownBlock) :
    RwB w' B R' (i + 1) m (fun r => if r = i then g1 else hb r) (fun r => if r = i then c1 else hc r) F := by
  have hl : ∀ {g : Nat} {l : List Value}, Row w g 3 l → Row w' g 3 l := fun {g l} q => (hg.block g q.lt (fun e => own_typed h.own q (by decide) e.symm)).trans q
  refine ⟨?_, fun r hr => ?_, fun r q hr hq e => ?_, fun r hr => ?_⟩
  · rw [heads_snoc, heads_congr (hb' := hb) (hc' := hc) (fun r hr => by simp [Nat.ne_of_lt hr])]
    simp only [if_pos]
    exact hown
  · by_cases e : r = i
    · subst e; simp only [if_pos]; exact ⟨ys, hl hrow⟩
    · simp only [if_neg e]
      obtain ⟨zs, q⟩ := h.inner r (by omega)
      exact ⟨zs, hl q⟩
  · by_cases e1 : r = i
    · by_cases e2 : q = i
      · omega
      · simp only [if_pos e1, if_neg e2] at e
        exact absurd e.symm (hnew q (by omega))
    · by_cases e2 : q = i
      · simp only [if_neg e1, if_pos e2] at e
        exact absurd e (hnew r (by omega))
      · simp only [if_neg e1, if_neg e2] at e
        exact h.inj r q (by omega) (by omega) e
  · by_cases e : r = i
    · simp only [if_pos e]; exact hB
    · simp only [if_neg e]; exact h.ibase r (by omega)
theorem RwB.mt {w : World} {B : Nat} {R : Value} {p m : Nat} {hb hc : Nat → Nat} {F : Nat → Nat → Nat} (h : RwB w B R p m hb hc F) (hp : 0 < p) : ∃ o co, R = .slice (some ⟨o, 0, none⟩) p co ∧ Mt w B o p m hb hc F := by
  obtain ⟨g, cap, ys, e, h1, h2, h3⟩ := own_some h.own hp
  exact ⟨g, cap, e, ⟨ys, h3⟩, h.inner, h.inj, h2, h.ibase⟩

theorem one_ints : One Tryz.prog 38 := One.of (by kernel_rfl)
/-- A list that lies in no block below B. -/
def FrB (B : Nat) (v : Value) : Prop := ∀ g o n c, v = .slice (some ⟨g, o, none⟩) n c → B ≤ g
/-- What Solve tells. -/
def SolP (B : Nat) (r : Option (List Nat)) (e : Ending) (w' : World) : Prop :=
  match r with
  | some D => ∃ v, e = .returned (.tuple #[v, .bool true]) ∧ Rd D v w' ∧ FrB B v
  | none => e = .returned (.tuple #[.slice none 0 0, .bool false])
end Go.Proofs.YtnbjaijhdjneoaaGreat
