import Derived.OneCell
import Derived.Test.YtojimgbcghiblaaGreatDoorR4
set_option linter.unusedVariables false
set_option maxRecDepth 100000
set_option maxHeartbeats 8000000
namespace Go.Proofs.YtojimgbcghiblaaGreatDoor
section
open Go.RowKit GfMath PolyMath RsMath SolMath
theorem Row.grown {w w' : World} {g : Nat} {t : TypeId} {l : List Value} {row : Option Nat} (h : Row w g t l) (hg : w.grownBy w' row) (hne : some g ≠ row) : Row w' g t l := (hg.block g h.lt hne).trans h
theorem Rd.step {l : List Nat} {v : Value} {w w' : World} (h : Rd l v w) (hb : Below w.heap.size w w') : Rd l v w' := Reads.step h hb
theorem zbcl (W : List Nat) (d : Nat -> Nat) (k : Nat) (hk : k < W.length) (h : d k = 0) : wordF W d (k + 1) = wordF W d k := by
 unfold wordF
 refine zap _ fun n hn => ?_
 by_cases e : n = k
 .subst e; rw [if_pos (by omega), if_neg (by omega), h]
 .by_cases e2 : n < k
  .rw [if_pos (by omega), if_pos e2]
  .rw [if_neg (by omega), if_neg e2]
theorem zbha (W : List Nat) (d : Nat -> Nat) (k : Nat) (hk : k < W.length) : (wordF W d k).set k (sq (wordF W d k) k ^^^ d k) = wordF W d (k + 1) := by
 have e : sq (wordF W d k) k = sq W k := by rw [wordF, zbm, if_pos hk, if_neg (by omega), Nat.xor_zero]
 rw [e, wordF, zdi, wordF]
 refine zap _ fun n hn => ?_
 by_cases e : n = k
 .subst e; rw [if_pos rfl, if_pos (by omega)]
 .rw [if_neg e]
  by_cases e2 : n < k
  .rw [if_pos e2, if_pos (by omega)]
  .rw [if_neg e2, if_neg (by omega)]
theorem zbcm (W : List Nat) (d : Nat -> Nat) : wordF W d 0 = W := by
 unfold wordF
 conv => rhs; rw [<- zjq W]
 exact zap _ fun n hn => by rw [if_neg (by omega), Nat.xor_zero]
theorem zlq (W : List Nat) (d : Nat -> Nat) (k : Nat) : (wordF W d k).length = W.length := zad _ _
theorem zwz {W : List Nat} (hW : By W) {d : Nat -> Nat} (hd : ∀ i, d i < 256) (k : Nat) : By (wordF W d k) := zbv _ fun n _ => zbt (hW.sq _) (by split; exact hd _; omega)
theorem ztn (d : Nat -> Nat) (k : Nat) (h : d k = 0) : atF d (k + 1) = atF d k := by simp [atF, List.range_succ, List.filter_append, h]
theorem zbli (d : Nat -> Nat) (k : Nat) (h : d k ≠ 0) : atF d (k + 1) = atF d k ++ [k] := by simp [atF, List.range_succ, List.filter_append, h]
theorem zbcv (d : Nat -> Nat) (k : Nat) : (atF d k).length <= k := by
 have := List.length_filter_le (fun i => decide (d i ≠ 0)) (List.range k)
 rw [List.length_range] at this
 exact this
theorem zwy {w : World} {g : Nat} {l : List Nat} {ys : List Value} (h : Row w g 5 (u8s l ++ ys)) (k x : Nat) (hk : k < l.length) : Row (w.setCell ⟨g, k, none⟩ (.int .u8 (x : Int))) g 5 (u8s (l.set k x) ++ ys) := by
 have := h.set k (.int .u8 (x : Int))
 rwa [List.set_append_left _ _ (by rw [zaf]; omega), zco] at this
theorem zbmf (s b n p g lost : Nat) (G : List Bool) (Vv Ev Tv : Value) (V E W R : List Nat) (rv : Value) (wb0 : Nat) (wo cw : Nat) (w : World) (h : Sol w s b n p g G lost Vv Ev Tv) (hn1 : 1 <= n) (hn : n <= 255) (hp1 : 1 <= p) (hp : p <= 64)
  (hV : Reads w Vv V) (hV8 : By V) (hVl : V.length <= 64) (hE : Reads w Ev E) (hE8 : By E) (hEl : E.length <= 300) (hR : Reads w rv R) (hR8 : By R) (hRl : R.length <= 300)
  (hW : Lies w w.heap.size (some ⟨wb0, wo, none⟩) (u8s W)) (hWl : W.length = n) (hW8 : By W) :
  Calls Tryz.prog 157 #[.pointer (some ⟨s, 0, none⟩), .slice (some ⟨wb0, wo, none⟩) n cw, rv] w fun e w' =>
   (∃ x y, e = .returned (.tuple #[x, y]) ∧ (∃ gm cm, x = .slice (some ⟨gm, 0, none⟩) n cm ∧ n <= cm ∧ w.heap.size <= gm ∧ Lies w' w'.heap.size (some ⟨gm, 0, none⟩) (u8s (layW n p W V R E))) ∧ IReads w' y (layP n p V R E)) ∧ Below w.heap.size w w' := by
 have HS0 := zh h
 have HV0 := zh hV
 have HE0 := zh hE
 have HR0 := zh hR
 have HV8 := zh hV8
 have HE8 := zh hE8
 have HR8 := zh hR8
 have HLT0 := zh h.lt
 have C00 := zh h.c0
 have C05 := zh h.c5
 have C06 := zh h.c6
 have hnb : (n : Int) <= 255 := by omega
 have hn0 : 1 <= (n : Int) := by omega
 have HN : Hid (1 <= n ∧ n <= 255) := zh ⟨hn1, hn⟩
 have HCL : Hid (∀ u, Below w.heap.size w u -> Calls Tryz.prog 166 #[.slice (some ⟨wb0, wo, none⟩) n cw] u fun e w' =>
   (∃ g' c', e = .returned (.slice (some ⟨g', 0, none⟩) n c') ∧ u.heap.size <= g' ∧ n <= c' ∧ ∃ ys, Row w' g' 5 (u8s W ++ ys)) ∧ Below u.heap.size u w') := zh fun u hb => by
  have := zgh wb0 wo cw W u (by omega) (by omega) (hW.step hb)
  rw [hWl] at this
  exact this.mono fun e w' ⟨⟨g', c', h1, h2, h3⟩, h4⟩ => ⟨⟨g', c', h1, h2, (zha h3).2, (zql h3).2⟩, h4⟩
 have hAl := zda R E
 have hA8 : By (pms [R, E]) := zbo hR8 hE8
 have HPM1 : Hid (∀ wx, Below w.heap.size w wx -> ∀ v, Pls [R, E] v wx -> Calls Tryz.prog 164 #[.pointer (some ⟨b, 0, none⟩), v] wx fun e w' => (∃ v, e = .returned v ∧ Reads w' v (pms [R, E])) ∧ Below wx.heap.size wx w') := zh fun wx hb v hv => pmulV b v _ wx (h.fld.step hb) hv (by simp) (by intro l hl; simp only [List.mem_cons, List.not_mem_nil, or_false] at hl; rcases hl with rfl | rfl <;> omega)
 have HD0 : Hid (dF n p V R E = dAt n (pms [R, E]) (beh (dl (pms [R, E]))) (lowl p (pms [V, pms [R, E]]))) := zh rfl
 obtain ⟨A, hA⟩ : ∃ A, pms [R, E] = A := ⟨_, rfl⟩
 rw [hA] at HPM1 HD0 hAl hA8
 have hdl := zcy (dl A)
 have hdl2 := zbkw A
 have hS8 : By (beh (dl A)) := (zsw hA8).beh
 have HDE : Hid (∀ wx, Below w.heap.size w wx -> ∀ v, Rd A v wx -> Calls Tryz.prog 178 #[.pointer (some ⟨b, 0, none⟩), v] wx fun e w' => (∃ v, e = .returned v ∧ Reads w' v (beh (dl A))) ∧ Below wx.heap.size wx w') := zh fun wx hb v hv => deriveV b v A wx hv hA8 (by omega)
 obtain ⟨S, hS⟩ : ∃ S, beh (dl A) = S := ⟨_, rfl⟩
 rw [hS] at HDE HD0 hdl hS8
 have hYl := zda V A
 have hY8 : By (pms [V, A]) := zbo hV8 hA8
 have HPM2 : Hid (∀ wx, Below w.heap.size w wx -> ∀ v, Pls [V, A] v wx -> Calls Tryz.prog 164 #[.pointer (some ⟨b, 0, none⟩), v] wx fun e w' => (∃ v, e = .returned v ∧ Reads w' v (pms [V, A])) ∧ Below wx.heap.size wx w') := zh fun wx hb v hv => pmulV b v _ wx (h.fld.step hb) hv (by simp) (by intro l hl; simp only [List.mem_cons, List.not_mem_nil, or_false] at hl; rcases hl with rfl | rfl <;> omega)
 obtain ⟨Y, hY⟩ : ∃ Y, pms [V, A] = Y := ⟨_, rfl⟩
 rw [hY] at HPM2 HD0 hYl hY8
 have hZl := zbmi p Y
 have hZ8 : By (lowl p Y) := zeb hY8 p
 have HLW : Hid (∀ wx, Below w.heap.size w wx -> ∀ v, Rd Y v wx -> Calls Tryz.prog 177 #[.pointer (some ⟨s, 0, none⟩), v] wx fun e w' => (∃ v, e = .returned v ∧ Reads w' v (lowl p Y)) ∧ Below wx.heap.size wx w') := zh fun wx hb v hv => zzr s b n p g G lost Vv Ev Tv v Y wx (h.step hb) hp1 (by omega) (by omega) hv
 obtain ⟨Z, hZ⟩ : ∃ Z, lowl p Y = Z := ⟨_, rfl⟩
 rw [hZ] at HLW HD0 hZl hZ8
 have HEA : Hid (∀ wx, Below w.heap.size w wx -> ∀ v, Rd A v wx -> ∀ x : Nat, x < 256 -> Calls Tryz.prog 174 #[.pointer (some ⟨b, 0, none⟩), v, .int .u8 (x : Int)] wx fun e w' => e = .returned (.int .u8 (ev A x : Int)) ∧ Below wx.heap.size wx w') := zh fun wx hb v hv x hx => evalV b v A x wx (h.fld.step hb) hv hA8 hx (by omega)
 have HES : Hid (∀ wx, Below w.heap.size w wx -> ∀ v, Rd S v wx -> ∀ x : Nat, x < 256 -> Calls Tryz.prog 174 #[.pointer (some ⟨b, 0, none⟩), v, .int .u8 (x : Int)] wx fun e w' => e = .returned (.int .u8 (ev S x : Int)) ∧ Below wx.heap.size wx w') := zh fun wx hb v hv x hx => evalV b v S x wx (h.fld.step hb) hv hS8 hx (by omega)
 have HEZ : Hid (∀ wx, Below w.heap.size w wx -> ∀ v, Rd Z v wx -> ∀ x : Nat, x < 256 -> Calls Tryz.prog 174 #[.pointer (some ⟨b, 0, none⟩), v, .int .u8 (x : Int)] wx fun e w' => e = .returned (.int .u8 (ev Z x : Int)) ∧ Below wx.heap.size wx w') := zh fun wx hb v hv x hx => evalV b v Z x wx (h.fld.step hb) hv hZ8 hx (by omega)
 have HD8 : Hid (∀ i, dF n p V R E i < 256) := zh fun i => by rw [HD0.out]; exact zua n hZ8 i
 have HDX : Hid (∀ i, dF n p V R E i = if ev A (iv (mrk n i)) ≠ 0 then 0 else gm (mrk n i) (gm (ev Z (iv (mrk n i))) (iv (ev S (iv (mrk n i)))))) := zh fun i => by rw [HD0.out]; rfl
 have HLW2 : Hid (layW n p W V R E = wordF W (dF n p V R E) n) := zh rfl
 have HLP2 : Hid (layP n p V R E = atF (dF n p V R E) n) := zh rfl
 obtain ⟨d, hd⟩ : ∃ d, dF n p V R E = d := ⟨_, rfl⟩
 rw [hd] at HD8 HDX HLW2 HLP2
 rw [HLW2.out, HLP2.out]
 have HEZ8 : Hid (By Z ∧ By S) := zh ⟨hZ8, hS8⟩
 have HBA := zh hA8
 have HWS : Hid (∀ k, k < n -> (wordF W d k).set k (sq (wordF W d k) k ^^^ d k) = wordF W d (k + 1)) := zh fun k hk => zbha W d k (by rw [hWl]; exact hk)
 have HW0 : Hid (wordF W d 0 = W) := zh (zbcm W d)
 have HWK : Hid (∀ k, k < n -> d k = 0 -> wordF W d (k + 1) = wordF W d k) := zh fun k hk h0 => zbcl W d k (by rw [hWl]; exact hk) h0
 have HWL : Hid (∀ k, (wordF W d k).length = n) := zh fun k => by rw [zlq]; exact hWl
 have HWB : Hid (∀ k, By (wordF W d k)) := zh fun k => zwz hW8 HD8.out k
 clear h hV hE hR hV8 hE8 hR8 hVl hEl hRl hW hWl hW8 hn1 hn hp1 hp hA hS hY hZ hd hAl hA8 hdl hdl2 hS8 hYl hY8 hZl hZ8 HD0 HLW2 HLP2
 go_enter Tryz.func157, Tryz.ntmps157
 go_wp2
 refine zak [(0, 18), (1, 19), (2, 20), (3, 21), (4, 22), (5, 23), (6, 24), (7, 25), (8, 26), (9, 27), (10, 28), (11, 8)]
  (fun ii => [Is (.pointer (some ⟨s, 0, none⟩)), Is (.pointer (some ⟨s, 0, none⟩)), Is (.pointer (some ⟨s, 0, none⟩)), Is (.pointer (some ⟨b, 0, none⟩)), Rd R, Is (.pointer (some ⟨s, 0, none⟩)), Is (.pointer (some ⟨s, 0, none⟩)), Is (.pointer (some ⟨s, 6, none⟩)), Rd E, Pls [R, E], Rd A, Rd A].getD ii (Is undef))
  (fun w' => Below w.heap.size w w') (by kernel_rfl) (by kernel_rfl) (by decide) (by decide) (by kernel_rfl) rfl ?monog ((zb).drew) ?stepg ?fing
 case monog =>
  intro i
  match i with
  | 0 | 1 | 2 | 3 | 5 | 6 | 7 => exact Is.monot _
  | 4 | 8 | 10 | 11 => exact Rd.monot _
  | 9 => exact Pls.monot _
  | _ + 12 => exact Is.monot _
 case stepg =>
  refine zf ⟨?gs0, zf ⟨?gs1, zf ⟨?gs2, zf ⟨?gs3, zf ⟨?gs4, zf ⟨?gs5, zf ⟨?gs6, zf ⟨?gs7, zf ⟨?gs8, zf ⟨?gs9, zf ⟨?gs10, zf ⟨?gs11, List.forall_mem_nil _⟩⟩⟩⟩⟩⟩⟩⟩⟩⟩⟩⟩
  case gs0 | gs5 =>
   intro u wx hg hC; clear hC; refine wpOp_step rfl (fun K hK => ?_)
   simp only [puts, List.foldl]; go_simp; exact zK hK hg
  case gs1 =>
   intro u wx hg hC
   have hJ0 : u 0 = (.pointer (some ⟨s, 0, none⟩)) := hC.at 0 (by kernel_rfl)
   clear hC; refine wpOp_step rfl (fun K hK => ?_)
   simp only [puts, List.foldl]; go_simp; exact zK hK hg
  case gs2 =>
   intro u wx hg hC
   have hJ1 : u 1 = (.pointer (some ⟨s, 0, none⟩)) := hC.at 1 (by kernel_rfl)
   clear hC; refine wpOp_step rfl (fun K hK => ?_)
   simp only [puts, List.foldl]; go_simp; exact zK hK hg
  case gs3 =>
   intro u wx hg hC
   have hJ2 : u 2 = (.pointer (some ⟨s, 0, none⟩)) := hC.at 2 (by kernel_rfl)
   clear hC
   have hcl : wx.cell? ⟨s, 0, none⟩ = some (.pointer (some ⟨b, 0, none⟩)) := (hg.cell (p := ⟨s, 0, none⟩) HLT0.out).trans C00.out
   refine wpOp_step rfl (fun K hK => ?_)
   simp only [puts, List.foldl]; go_simp; exact zK hK hg
  case gs4 =>
   intro u wx hg hC; clear hC; refine wpOp_step rfl (fun K hK => ?_)
   simp only [puts, List.foldl]; go_simp; exact hK _ _ ⟨rfl, HR0.out.step hg, hg, zb⟩
  case gs6 =>
   intro u wx hg hC
   have hJ5 : u 5 = (.pointer (some ⟨s, 0, none⟩)) := hC.at 5 (by kernel_rfl)
   clear hC; refine wpOp_step rfl (fun K hK => ?_)
   simp only [puts, List.foldl]; go_simp; exact zK hK hg
  case gs7 =>
   intro u wx hg hC
   have hJ6 : u 6 = (.pointer (some ⟨s, 0, none⟩)) := hC.at 6 (by kernel_rfl)
   clear hC; refine wpOp_step rfl (fun K hK => ?_)
   simp only [puts, List.foldl]; go_simp; exact zK hK hg
  case gs8 =>
   intro u wx hg hC
   have hJ7 : u 7 = (.pointer (some ⟨s, 6, none⟩)) := hC.at 7 (by kernel_rfl)
   clear hC
   have hcl : wx.cell? ⟨s, 6, none⟩ = some Ev := (hg.cell (p := ⟨s, 6, none⟩) HLT0.out).trans C06.out
   refine wpOp_step rfl (fun K hK => ?_)
   simp only [puts, List.foldl]; go_simp; exact hK _ _ ⟨rfl, HE0.out.step hg, hg, zb⟩
  case gs9 =>
   intro u wx hg hC; obtain ⟨a4, c4, e4, q4⟩ : (Rd R) (u 4) wx := hC.at 4 (by kernel_rfl)
   have hJ4 : Rd (R) (.slice a4 (R).length c4) wx := ⟨_, _, rfl, q4⟩
   obtain ⟨a8, c8, e8, q8⟩ : (Rd E) (u 8) wx := hC.at 8 (by kernel_rfl)
   have hJ8 : Rd (E) (.slice a8 (E).length c8) wx := ⟨_, _, rfl, q8⟩
   clear hC; refine wpOp_step rfl (fun K hK => ?_)
   simp only [puts, List.foldl]; go_simp
   refine hK _ _ ⟨rfl, ?_, hg.alloc hg.size _, zab _ _⟩
   change Pls [R, E] _ _
   exact zgq (HR8.out) (HE8.out) (hJ4) (hJ8)
  case gs10 =>
   intro u wx hg hC
   have hJ3 : u 3 = (.pointer (some ⟨b, 0, none⟩)) := hC.at 3 (by kernel_rfl)
   have hJ9 : (Pls [R, E]) (u 9) wx := hC.at 9 (by kernel_rfl)
   clear hC; refine wpOp_step rfl (fun K hK => ?_)
   simp only [puts, List.foldl]; go_simp
   refine (HPM1.out wx hg _ hJ9).mono ?_
   rintro e w' ⟨⟨v, rfl, hv⟩, hb'⟩
   exact hK _ _ ⟨rfl, hv, hg.next hb', hb'⟩
  case gs11 =>
   intro u wx hg hC
   have hJ10 : (Rd A) (u 10) wx := hC.at 10 (by kernel_rfl)
   clear hC; refine wpOp_step rfl (fun K hK => ?_)
   simp only [puts, List.foldl]; go_simp; exact hK _ _ ⟨rfl, hJ10, hg, zb⟩
 case fing =>
  intro u w0 hb0 hφ
  have h8 : Rd A (u 11) w0 := hφ (11, 8) (by decide)
  clear hφ
  simp only [puts, List.foldl]
  go_simp
  obtain ⟨av, hav⟩ : ∃ v, u 11 = v := ⟨_, rfl⟩
  rw [hav] at h8 ⊢
  have HA0 : Hid (Rd A av w0) := zh h8
  have BW0 := zh hb0
  have c00 := (HS0.out.step hb0).c0
  clear h8 hb0 hav
  go_wp2_with (first
   | (go_at_call 178; (with_reducible refine (HDE.out w0 BW0.out av HA0.out).mono ?_); rintro e w1 ⟨⟨sv, rfl, h1⟩, b1⟩; have BW1 := zh (BW0.out.next b1); have HSL1 := zh h1; have HA1 := zh (HA0.out.step b1); clear h1 b1))
  have HLT1 : Hid (s < w1.heap.size) := zh (HS0.out.step BW1.out).lt
  have C01 : Hid (w1.cell? ⟨s, 0, none⟩ = some (.pointer (some ⟨b, 0, none⟩))) := zh (HS0.out.step BW1.out).c0
  have C51 : Hid (w1.cell? ⟨s, 5, none⟩ = some Vv) := zh (HS0.out.step BW1.out).c5
  clear c00
  refine zak [(0, 35), (1, 36), (2, 37), (3, 38), (4, 39), (5, 40), (6, 41), (7, 42), (8, 43), (9, 44), (10, 45), (11, 46), (12, 47), (13, 10)]
   (fun ii => [Is (.pointer (some ⟨s, 0, none⟩)), Is (.pointer (some ⟨s, 0, none⟩)), Is (.pointer (some ⟨s, 0, none⟩)), Is (.pointer (some ⟨s, 0, none⟩)), Is (.pointer (some ⟨b, 0, none⟩)), Is (.pointer (some ⟨s, 0, none⟩)), Is (.pointer (some ⟨s, 0, none⟩)), Is (.pointer (some ⟨s, 5, none⟩)), Rd V, Rd A, Pls [V, A], Rd Y, Rd Z, Rd Z].getD ii (Is undef))
   (fun w' => Below w1.heap.size w1 w') (by kernel_rfl) (by kernel_rfl) (by decide) (by decide) (by kernel_rfl) rfl ?monoh ((zb).drew) ?steph ?finh
  case monoh =>
   intro i
   match i with
   | 0 | 1 | 2 | 3 | 4 | 5 | 6 | 7 => exact Is.monot _
   | 8 | 9 | 11 | 12 | 13 => exact Rd.monot _
   | 10 => exact Pls.monot _
   | _ + 14 => exact Is.monot _
  case steph =>
   refine zf ⟨?hs0, zf ⟨?hs1, zf ⟨?hs2, zf ⟨?hs3, zf ⟨?hs4, zf ⟨?hs5, zf ⟨?hs6, zf ⟨?hs7, zf ⟨?hs8, zf ⟨?hs9, zf ⟨?hs10, zf ⟨?hs11, zf ⟨?hs12, zf ⟨?hs13, List.forall_mem_nil _⟩⟩⟩⟩⟩⟩⟩⟩⟩⟩⟩⟩⟩⟩
   case hs0 | hs1 | hs5 =>
    intro u wx hg hC; clear hC; refine wpOp_step rfl (fun K hK => ?_)
    simp only [puts, List.foldl]; go_simp; exact zK hK hg
   case hs2 =>
    intro u wx hg hC
    have hJ1 : u 1 = (.pointer (some ⟨s, 0, none⟩)) := hC.at 1 (by kernel_rfl)
    clear hC; refine wpOp_step rfl (fun K hK => ?_)
    simp only [puts, List.foldl]; go_simp; exact zK hK hg
   case hs3 =>
    intro u wx hg hC
    have hJ2 : u 2 = (.pointer (some ⟨s, 0, none⟩)) := hC.at 2 (by kernel_rfl)
    clear hC; refine wpOp_step rfl (fun K hK => ?_)
    simp only [puts, List.foldl]; go_simp; exact zK hK hg
   case hs4 =>
    intro u wx hg hC
    have hJ3 : u 3 = (.pointer (some ⟨s, 0, none⟩)) := hC.at 3 (by kernel_rfl)
    clear hC
    have hcl : wx.cell? ⟨s, 0, none⟩ = some (.pointer (some ⟨b, 0, none⟩)) := (hg.cell (p := ⟨s, 0, none⟩) HLT1.out).trans C01.out
    refine wpOp_step rfl (fun K hK => ?_)
    simp only [puts, List.foldl]; go_simp; exact zK hK hg
   case hs6 =>
    intro u wx hg hC
    have hJ5 : u 5 = (.pointer (some ⟨s, 0, none⟩)) := hC.at 5 (by kernel_rfl)
    clear hC; refine wpOp_step rfl (fun K hK => ?_)
    simp only [puts, List.foldl]; go_simp; exact zK hK hg
   case hs7 =>
    intro u wx hg hC
    have hJ6 : u 6 = (.pointer (some ⟨s, 0, none⟩)) := hC.at 6 (by kernel_rfl)
    clear hC; refine wpOp_step rfl (fun K hK => ?_)
    simp only [puts, List.foldl]; go_simp; exact zK hK hg
   case hs8 =>
    intro u wx hg hC
    have hJ7 : u 7 = (.pointer (some ⟨s, 5, none⟩)) := hC.at 7 (by kernel_rfl)
    clear hC
    have hcl : wx.cell? ⟨s, 5, none⟩ = some Vv := (hg.cell (p := ⟨s, 5, none⟩) HLT1.out).trans C51.out
    refine wpOp_step rfl (fun K hK => ?_)
    simp only [puts, List.foldl]; go_simp; exact hK _ _ ⟨rfl, (HV0.out.step BW1.out).step hg, hg, zb⟩
   case hs9 =>
    intro u wx hg hC; clear hC; refine wpOp_step rfl (fun K hK => ?_)
    simp only [puts, List.foldl]; go_simp; exact hK _ _ ⟨rfl, HA1.out.step hg, hg, zb⟩
   case hs10 =>
    intro u wx hg hC; obtain ⟨a8, c8, e8, q8⟩ : (Rd V) (u 8) wx := hC.at 8 (by kernel_rfl)
    have hJ8 : Rd (V) (.slice a8 (V).length c8) wx := ⟨_, _, rfl, q8⟩
    obtain ⟨a9, c9, e9, q9⟩ : (Rd A) (u 9) wx := hC.at 9 (by kernel_rfl)
    have hJ9 : Rd (A) (.slice a9 (A).length c9) wx := ⟨_, _, rfl, q9⟩
    clear hC; refine wpOp_step rfl (fun K hK => ?_)
    simp only [puts, List.foldl]; go_simp
    refine hK _ _ ⟨rfl, ?_, hg.alloc hg.size _, zab _ _⟩
    change Pls [V, A] _ _
    exact zgq (HV8.out) (HBA.out) (hJ8) (hJ9)
   case hs11 =>
    intro u wx hg hC
    have hJ4 : u 4 = (.pointer (some ⟨b, 0, none⟩)) := hC.at 4 (by kernel_rfl)
    have hJ10 : (Pls [V, A]) (u 10) wx := hC.at 10 (by kernel_rfl)
    clear hC; refine wpOp_step rfl (fun K hK => ?_)
    simp only [puts, List.foldl]; go_simp
    refine (HPM2.out wx (BW1.out.next hg) _ hJ10).mono ?_
    rintro e w' ⟨⟨v, rfl, hv⟩, hb'⟩
    exact hK _ _ ⟨rfl, hv, hg.next hb', hb'⟩
   case hs12 =>
    intro u wx hg hC
    have hJ0 : u 0 = (.pointer (some ⟨s, 0, none⟩)) := hC.at 0 (by kernel_rfl)
    have hJ11 : (Rd Y) (u 11) wx := hC.at 11 (by kernel_rfl)
    clear hC; refine wpOp_step rfl (fun K hK => ?_)
    simp only [puts, List.foldl]; go_simp
    refine (HLW.out wx (BW1.out.next hg) _ hJ11).mono ?_
    rintro e w' ⟨⟨v, rfl, hv⟩, hb'⟩
    exact hK _ _ ⟨rfl, hv, hg.next hb', hb'⟩
   case hs13 =>
    intro u wx hg hC
    have hJ12 : (Rd Z) (u 12) wx := hC.at 12 (by kernel_rfl)
    clear hC; refine wpOp_step rfl (fun K hK => ?_)
    simp only [puts, List.foldl]; go_simp; exact hK _ _ ⟨rfl, hJ12, hg, zb⟩
  case finh =>
   intro u w2 hb2 hφ
   have h10 : Rd Z (u 13) w2 := hφ (13, 10) (by decide)
   clear hφ; simp only [puts, List.foldl]; go_simp; obtain ⟨zv, hzv⟩ : ∃ v, u 13 = v := ⟨_, rfl⟩; rw [hzv] at h10 ⊢
   have HZ2 : Hid (Reads w2 zv Z) := zh h10
   have BW2 := zh (BW1.out.next hb2); have HA2 := zh (HA1.out.step hb2); have HSL2 := zh (HSL1.out.step hb2); clear h10 hb2 hzv
   go_wp2_with (first
    | (go_at_call 166; (with_reducible refine (HCL.out w2 BW2.out).mono ?_); rintro e wc' ⟨⟨gM, cm, rfl, q1, q2, ys, r1⟩, b1⟩; have HGB : Hid (w2.heap.size <= gM) := zh q1; have HCM : Hid (n <= cm) := zh q2; have RM := zh r1; have BC := zh b1; have c1 := ((HS0.out.step BW2.out).step b1).c1; clear q1 q2 r1 b1))
   have HSC := zh (HS0.out.step BW2.out); have HBC := zh BW2.out; have HAC := zh HA2.out; have HSLC := zh HSL2.out; have HZC := zh HZ2.out; clear BW1 BW2 HA1 HA2 HSL1 HSL2 HZ2; generalize w2 = wc at *; clear HCL HPM1 HPM2 HDE HLW HV0 HE0 HR0 HLT0 C00 C05 C06 HV8 HE8 HR8 HBA
   go_loopw [12, 54] (fun pv i wr => ∃ k : Nat, k <= n ∧ i = .int .i64 k ∧ wr.ownsRow (gM + 1) 3 1 pv (atF d k).length (nats (atF d k)) ∧ Row wr gM 5 (u8s (wordF W d k) ++ ys) ∧ Below wc.heap.size wc wr) (fun _ i _ => n - (intOf i).toNat)
   case atStart => exact ⟨0, Nat.zero_le _, rfl, ⟨rfl, .inl ⟨rfl, rfl⟩⟩, by rw [HW0.out]; exact RM.out, BC.out⟩
   case round =>
    clear RM BC c1; obtain ⟨k, hk, rfl, how, hrm, hbr⟩ := hrel; have OWR := zh how; have RMR := zh hrm; have HBR := zh hbr
    by_cases hlt : k < n
    .have HKN : Hid (k < n) := zh hlt
     have hki : (k : Int) < (n : Int) := by omega
     have HSR := zh (HSC.out.step hbr); have RAR := zh (HAC.out.step hbr); have RSR := zh (HSLC.out.step hbr); have RZR := zh (HZC.out.step hbr)
     have HBW2 := zh (HBC.out.next hbr)
     have HLTR := zh HSR.out.lt; have C0R := zh HSR.out.c0
     have HMK : Hid (∀ wx, Below wr.heap.size wr wx -> Calls Tryz.prog 176 #[.pointer (some ⟨s, 0, none⟩), .int .i64 (k : Int)] wx fun e w' => e = .returned (.int .u8 (mrk n k : Int)) ∧ Below wx.heap.size wx w') := zh fun wx hb => zuw s b n p g G lost Vv Ev Tv k wx (HSR.out.step hb) HN.out.2 hlt
     have HM8 : Hid (mrk n k < 256) := zh (zbe n k)
     have HDKX := zh (HDX.out k)
     have HIV0 : Hid (∀ wx, Below wr.heap.size wr wx -> Calls Tryz.prog 179 #[.pointer (some ⟨b, 0, none⟩), .int .u8 (mrk n k : Int)] wx fun e w' => e = .returned (.tuple #[.int .u8 (iv (mrk n k) : Int), .bool (decide (mrk n k ≠ 0))]) ∧ Below wx.heap.size wx w') := zh fun wx hb => invV b _ wx (HSR.out.fld.step hb) (zbe n k)
     obtain ⟨mk, hmk⟩ : ∃ m, mrk n k = m := ⟨_, rfl⟩; rw [hmk] at HMK HM8 HDKX HIV0
     have HX8 : Hid (iv mk < 256) := zh (zba mk)
     obtain ⟨b1, hb1⟩ : ∃ b1, decide (mk ≠ 0) = b1 := ⟨_, rfl⟩; rw [hb1] at HIV0; obtain ⟨x, hx⟩ : ∃ x, iv mk = x := ⟨_, rfl⟩; rw [hx] at HX8 HDKX HIV0; have HIV := HIV0; clear how hrm hbr hmk hb1 hx HIV0; go_wp2
     refine zak [(0, 58), (1, 59), (2, 60), (3, 61), (4, 62), (5, 63), (6, 64), (7, 65), (8, 57), (9, 66), (10, 67), (11, 14), (12, 15)]
      (fun ii => [Is (.pointer (some ⟨s, 0, none⟩)), Is (.pointer (some ⟨s, 0, none⟩)), Is (.pointer (some ⟨s, 0, none⟩)), Is (.pointer (some ⟨b, 0, none⟩)), Is (.pointer (some ⟨s, 0, none⟩)), Is (.int .i64 (k : Int)), Is (.int .u8 (mk : Int)), Is (.tuple #[.int .u8 (x : Int), .bool b1]), Is (.tuple #[.int .u8 (x : Int), .bool b1]), Is (.int .u8 (x : Int)), Is (.bool b1), Is (.int .u8 (x : Int)), Is (.bool b1)].getD ii (Is undef))
      (fun w' => Below wr.heap.size wr w') (by kernel_rfl) (by kernel_rfl) (by decide) (by decide) (by kernel_rfl) rfl ?monof ((zb).drew) ?stepf ?finf
     case monof =>
      intro i
      match i with
      | 0 | 1 | 2 | 3 | 4 | 5 | 6 | 7 | 8 | 9 | 10 | 11 | 12 => exact Is.monot _
      | _ + 13 => exact Is.monot _
     case stepf =>
      refine zf ⟨?fs0, zf ⟨?fs1, zf ⟨?fs2, zf ⟨?fs3, zf ⟨?fs4, zf ⟨?fs5, zf ⟨?fs6, zf ⟨?fs7, zf ⟨?fs8, zf ⟨?fs9, zf ⟨?fs10, zf ⟨?fs11, zf ⟨?fs12, List.forall_mem_nil _⟩⟩⟩⟩⟩⟩⟩⟩⟩⟩⟩⟩⟩
      case fs0 | fs4 | fs5 =>
       intro u wx hg hC; clear hC; refine wpOp_step rfl (fun K hK => ?_)
       simp only [puts, List.foldl]; go_simp; exact zK hK hg
      case fs1 =>
       intro u wx hg hC
       have hJ0 : u 0 = (.pointer (some ⟨s, 0, none⟩)) := hC.at 0 (by kernel_rfl)
       clear hC; refine wpOp_step rfl (fun K hK => ?_)
       simp only [puts, List.foldl]; go_simp; exact zK hK hg
      case fs2 =>
       intro u wx hg hC
       have hJ1 : u 1 = (.pointer (some ⟨s, 0, none⟩)) := hC.at 1 (by kernel_rfl)
       clear hC; refine wpOp_step rfl (fun K hK => ?_)
       simp only [puts, List.foldl]; go_simp; exact zK hK hg
      case fs3 =>
       intro u wx hg hC
       have hJ2 : u 2 = (.pointer (some ⟨s, 0, none⟩)) := hC.at 2 (by kernel_rfl)
       clear hC
       have hcl : wx.cell? ⟨s, 0, none⟩ = some (.pointer (some ⟨b, 0, none⟩)) := (hg.cell (p := ⟨s, 0, none⟩) HLTR.out).trans C0R.out
       refine wpOp_step rfl (fun K hK => ?_)
       simp only [puts, List.foldl]; go_simp; exact zK hK hg
      case fs6 =>
       intro u wx hg hC
       have hJ4 : u 4 = (.pointer (some ⟨s, 0, none⟩)) := hC.at 4 (by kernel_rfl)
       have hJ5 : u 5 = (.int .i64 (k : Int)) := hC.at 5 (by kernel_rfl)
       clear hC; refine wpOp_step rfl (fun K hK => ?_)
       simp only [puts, List.foldl]; go_simp
       refine (HMK.out wx hg).mono ?_
       rintro e w' ⟨rfl, hb'⟩
       exact hK _ _ ⟨rfl, rfl, hg.next hb', hb'⟩
      case fs7 =>
       intro u wx hg hC
       have hJ3 : u 3 = (.pointer (some ⟨b, 0, none⟩)) := hC.at 3 (by kernel_rfl)
       have hJ6 : u 6 = (.int .u8 (mk : Int)) := hC.at 6 (by kernel_rfl)
       clear hC; refine wpOp_step rfl (fun K hK => ?_)
       simp only [puts, List.foldl]; go_simp
       refine (HIV.out wx hg).mono ?_
       rintro e w' ⟨rfl, hb'⟩
       exact hK _ _ ⟨rfl, rfl, hg.next hb', hb'⟩
      case fs8 =>
       intro u wx hg hC
       have hJ7 : u 7 = (.tuple #[.int .u8 (x : Int), .bool b1]) := hC.at 7 (by kernel_rfl)
       clear hC; refine wpOp_step rfl (fun K hK => ?_)
       simp only [puts, List.foldl]; go_simp; exact zK hK hg
      case fs9 | fs10 =>
       intro u wx hg hC
       have hJ8 : u 8 = (.tuple #[.int .u8 (x : Int), .bool b1]) := hC.at 8 (by kernel_rfl)
       clear hC; refine wpOp_step rfl (fun K hK => ?_)
       simp only [puts, List.foldl]; go_simp; exact zK hK hg
      case fs11 =>
       intro u wx hg hC
       have hJ9 : u 9 = (.int .u8 (x : Int)) := hC.at 9 (by kernel_rfl)
       clear hC; refine wpOp_step rfl (fun K hK => ?_)
       simp only [puts, List.foldl]; go_simp; exact zK hK hg
      case fs12 =>
       intro u wx hg hC
       have hJ10 : u 10 = (.bool b1) := hC.at 10 (by kernel_rfl)
       clear hC; refine wpOp_step rfl (fun K hK => ?_)
       simp only [puts, List.foldl]; go_simp; exact zK hK hg
     case finf =>
      intro u w3 hb3 hφ
      have e14 : u 11 = .int .u8 (x : Int) := hφ (11, 14) (by decide)
      clear hφ; simp only [puts, List.foldl]; go_simp; have BA3 := zh hb3; have c03 := (HSR.out.step hb3).c0; have HRA3 := zh (RAR.out.step hb3); clear hb3
      by_cases ha : ev A x = 0
      .have HDK0 : Hid (d k = gm mk (gm (ev Z x) (iv (ev S x)))) := zh (by rw [HDKX.out, if_neg (by omega)])
       have HEV : Hid (∀ u, Below wr.heap.size wr u -> Rd A av u -> Calls Tryz.prog 174 #[.pointer (some ⟨b, 0, none⟩), av, .int .u8 (x : Int)] u fun e w' => e = .returned (.int .u8 0) ∧ Below u.heap.size u w') := zh fun u hb hr => by
        have := HEA.out u (HBW2.out.next hb) av hr x HX8.out
        rwa [ha] at this
       have hl1 := zbh HEZ8.out.1 HX8.out; have hl2 := zbh HEZ8.out.2 HX8.out
       have HEZX : Hid (∀ wx, Below wr.heap.size wr wx -> ∀ v, Rd Z v wx -> Calls Tryz.prog 174 #[.pointer (some ⟨b, 0, none⟩), v, .int .u8 (x : Int)] wx fun e w' => e = .returned (.int .u8 (ev Z x : Int)) ∧ Below wx.heap.size wx w') := zh fun wx hb v hv => HEZ.out wx (HBW2.out.next hb) v hv x HX8.out
       have HESX : Hid (∀ wx, Below wr.heap.size wr wx -> ∀ v, Rd S v wx -> Calls Tryz.prog 174 #[.pointer (some ⟨b, 0, none⟩), v, .int .u8 (x : Int)] wx fun e w' => e = .returned (.int .u8 (ev S x : Int)) ∧ Below wx.heap.size wx w') := zh fun wx hb v hv => HES.out wx (HBW2.out.next hb) v hv x HX8.out
       obtain ⟨l1, h1⟩ : ∃ l, ev Z x = l := ⟨_, rfl⟩; obtain ⟨l2, h2⟩ : ∃ l, ev S x = l := ⟨_, rfl⟩; rw [h1] at hl1 HEZX HDK0; rw [h2] at hl2 HESX HDK0
       have HDI0 : Hid (∀ wx, Below wr.heap.size wr wx -> Calls Tryz.prog 162 #[.pointer (some ⟨b, 0, none⟩), .int .u8 (l1 : Int), .int .u8 (l2 : Int)] wx fun e w' => e = .returned (.tuple #[.int .u8 (gm l1 (iv l2) : Int), .bool (decide (l2 ≠ 0))]) ∧ Below wx.heap.size wx w') := zh fun wx hb => divV b l1 l2 wx (HSR.out.fld.step hb) hl1 hl2
       have hd08 : gm l1 (iv l2) < 256 := zbb hl1 (zba _)
       obtain ⟨b2, hb2⟩ : ∃ b2, decide (l2 ≠ 0) = b2 := ⟨_, rfl⟩; rw [hb2] at HDI0; obtain ⟨d0, hd0⟩ : ∃ d0, gm l1 (iv l2) = d0 := ⟨_, rfl⟩; rw [hd0] at HDI0 hd08 HDK0; have HDI := HDI0
       have HMU : Hid (∀ wx, Below wr.heap.size wr wx -> ∀ v, Rd [mk, d0] v wx -> Calls Tryz.prog 151 #[.pointer (some ⟨b, 0, none⟩), v] wx fun e w' => e = .returned (.int .u8 (gm mk d0 : Int)) ∧ Below wx.heap.size wx w') := zh fun wx hb v hv => by
        have := mulV b v [mk, d0] wx (HSR.out.fld.step hb) hv (zdm HM8.out hd08) (by simp)
        rwa [zni HM8.out] at this
       have HDK8 : Hid (gm mk d0 < 256) := zh (zbb HM8.out hd08)
       obtain ⟨dk, hdk⟩ : ∃ dk, gm mk d0 = dk := ⟨_, rfl⟩; rw [hdk] at HMU HDK0 HDK8; have HDK := HDK0; clear ha h1 h2 hb2 hd0 hdk hl1 hl2 hd08 HDI0 HDKX
       go_wp2_with (go_at_call 174; (with_reducible refine (HEV.out w3 BA3.out HRA3.out).mono ?_); rintro e w4 ⟨rfl, b4⟩; have BA4 := zh (BA3.out.next b4); clear b4)
       have HLT4 : Hid (s < w4.heap.size) := zh (HSR.out.step BA4.out).lt
       have C04' : Hid (w4.cell? ⟨s, 0, none⟩ = some (.pointer (some ⟨b, 0, none⟩))) := zh (HSR.out.step BA4.out).c0
       clear c03 e14
       refine zak [(0, 77), (1, 78), (2, 79), (3, 80), (4, 81), (5, 82), (6, 83), (7, 84), (8, 85), (9, 86), (10, 87), (11, 88), (12, 89), (13, 90), (14, 91), (15, 92), (16, 93), (17, 94), (18, 95), (19, 76), (20, 96), (21, 97), (22, 16), (23, 17)]
        (fun ii => [Is (.pointer (some ⟨s, 0, none⟩)), Is (.pointer (some ⟨s, 0, none⟩)), Is (.pointer (some ⟨s, 0, none⟩)), Is (.pointer (some ⟨b, 0, none⟩)), Is (.pointer (some ⟨s, 0, none⟩)), Is (.pointer (some ⟨s, 0, none⟩)), Is (.pointer (some ⟨s, 0, none⟩)), Is (.pointer (some ⟨b, 0, none⟩)), Rd Z, Is (.int .u8 (x : Int)), Is (.int .u8 (l1 : Int)), Is (.pointer (some ⟨s, 0, none⟩)), Is (.pointer (some ⟨s, 0, none⟩)), Is (.pointer (some ⟨s, 0, none⟩)), Is (.pointer (some ⟨b, 0, none⟩)), Rd S, Is (.int .u8 (x : Int)), Is (.int .u8 (l2 : Int)), Is (.tuple #[.int .u8 (d0 : Int), .bool b2]), Is (.tuple #[.int .u8 (d0 : Int), .bool b2]), Is (.int .u8 (d0 : Int)), Is (.bool b2), Is (.int .u8 (d0 : Int)), Is (.bool b2)].getD ii (Is undef))
        (fun w' => Below w4.heap.size w4 w') (by kernel_rfl) (by kernel_rfl) (by decide) (by decide) (by kernel_rfl) rfl ?monod ((zb).drew) ?stepd ?find
       case monod =>
        intro i
        match i with
        | 0 | 1 | 2 | 3 | 4 | 5 | 6 | 7 | 9 | 10 | 11 | 12 | 13 | 14 | 16 | 17 | 18 | 19 | 20 | 21 | 22 | 23 => exact Is.monot _
        | 8 | 15 => exact Rd.monot _
        | _ + 24 => exact Is.monot _
       case stepd =>
        refine zf ⟨?ds0, zf ⟨?ds1, zf ⟨?ds2, zf ⟨?ds3, zf ⟨?ds4, zf ⟨?ds5, zf ⟨?ds6, zf ⟨?ds7, zf ⟨?ds8, zf ⟨?ds9, zf ⟨?ds10, zf ⟨?ds11, zf ⟨?ds12, zf ⟨?ds13, zf ⟨?ds14, zf ⟨?ds15, zf ⟨?ds16, zf ⟨?ds17, zf ⟨?ds18, zf ⟨?ds19, zf ⟨?ds20, zf ⟨?ds21, zf ⟨?ds22, zf ⟨?ds23, List.forall_mem_nil _⟩⟩⟩⟩⟩⟩⟩⟩⟩⟩⟩⟩⟩⟩⟩⟩⟩⟩⟩⟩⟩⟩⟩⟩
        case ds0 | ds4 | ds9 | ds11 | ds16 =>
         intro u wx hg hC; clear hC; refine wpOp_step rfl (fun K hK => ?_)
         simp only [puts, List.foldl]; go_simp; exact zK hK hg
        case ds1 =>
         intro u wx hg hC
         have hJ0 : u 0 = (.pointer (some ⟨s, 0, none⟩)) := hC.at 0 (by kernel_rfl)
         clear hC; refine wpOp_step rfl (fun K hK => ?_)
         simp only [puts, List.foldl]; go_simp; exact zK hK hg
        case ds2 =>
         intro u wx hg hC
         have hJ1 : u 1 = (.pointer (some ⟨s, 0, none⟩)) := hC.at 1 (by kernel_rfl)
         clear hC; refine wpOp_step rfl (fun K hK => ?_)
         simp only [puts, List.foldl]; go_simp; exact zK hK hg
        case ds3 =>
         intro u wx hg hC
         have hJ2 : u 2 = (.pointer (some ⟨s, 0, none⟩)) := hC.at 2 (by kernel_rfl)
         clear hC
         have hcl : wx.cell? ⟨s, 0, none⟩ = some (.pointer (some ⟨b, 0, none⟩)) := (hg.cell (p := ⟨s, 0, none⟩) HLT4.out).trans C04'.out
         refine wpOp_step rfl (fun K hK => ?_)
         simp only [puts, List.foldl]; go_simp; exact zK hK hg
        case ds5 =>
         intro u wx hg hC
         have hJ4 : u 4 = (.pointer (some ⟨s, 0, none⟩)) := hC.at 4 (by kernel_rfl)
         clear hC; refine wpOp_step rfl (fun K hK => ?_)
         simp only [puts, List.foldl]; go_simp; exact zK hK hg
        case ds6 =>
         intro u wx hg hC
         have hJ5 : u 5 = (.pointer (some ⟨s, 0, none⟩)) := hC.at 5 (by kernel_rfl)
         clear hC; refine wpOp_step rfl (fun K hK => ?_)
         simp only [puts, List.foldl]; go_simp; exact zK hK hg
        case ds7 =>
         intro u wx hg hC
         have hJ6 : u 6 = (.pointer (some ⟨s, 0, none⟩)) := hC.at 6 (by kernel_rfl)
         clear hC
         have hcl : wx.cell? ⟨s, 0, none⟩ = some (.pointer (some ⟨b, 0, none⟩)) := (hg.cell (p := ⟨s, 0, none⟩) HLT4.out).trans C04'.out
         refine wpOp_step rfl (fun K hK => ?_)
         simp only [puts, List.foldl]; go_simp; exact zK hK hg
        case ds8 =>
         intro u wx hg hC; clear hC; refine wpOp_step rfl (fun K hK => ?_)
         simp only [puts, List.foldl]; go_simp; exact hK _ _ ⟨rfl, RZR.out.step (BA4.out.next hg), hg, zb⟩
        case ds10 =>
         intro u wx hg hC
         have hJ7 : u 7 = (.pointer (some ⟨b, 0, none⟩)) := hC.at 7 (by kernel_rfl)
         have hJ8 : (Rd Z) (u 8) wx := hC.at 8 (by kernel_rfl)
         have hJ9 : u 9 = (.int .u8 (x : Int)) := hC.at 9 (by kernel_rfl)
         clear hC; refine wpOp_step rfl (fun K hK => ?_)
         simp only [puts, List.foldl]; go_simp
         refine (HEZX.out wx (BA4.out.next hg) _ hJ8).mono ?_
         rintro e w' ⟨rfl, hb'⟩
         exact hK _ _ ⟨rfl, rfl, hg.next hb', hb'⟩
        case ds12 =>
         intro u wx hg hC
         have hJ11 : u 11 = (.pointer (some ⟨s, 0, none⟩)) := hC.at 11 (by kernel_rfl)
         clear hC; refine wpOp_step rfl (fun K hK => ?_)
         simp only [puts, List.foldl]; go_simp; exact zK hK hg
        case ds13 =>
         intro u wx hg hC
         have hJ12 : u 12 = (.pointer (some ⟨s, 0, none⟩)) := hC.at 12 (by kernel_rfl)
         clear hC; refine wpOp_step rfl (fun K hK => ?_)
         simp only [puts, List.foldl]; go_simp; exact zK hK hg
        case ds14 =>
         intro u wx hg hC
         have hJ13 : u 13 = (.pointer (some ⟨s, 0, none⟩)) := hC.at 13 (by kernel_rfl)
         clear hC
         have hcl : wx.cell? ⟨s, 0, none⟩ = some (.pointer (some ⟨b, 0, none⟩)) := (hg.cell (p := ⟨s, 0, none⟩) HLT4.out).trans C04'.out
         refine wpOp_step rfl (fun K hK => ?_)
         simp only [puts, List.foldl]; go_simp; exact zK hK hg
        case ds15 =>
         intro u wx hg hC; clear hC; refine wpOp_step rfl (fun K hK => ?_)
         simp only [puts, List.foldl]; go_simp; exact hK _ _ ⟨rfl, RSR.out.step (BA4.out.next hg), hg, zb⟩
        case ds17 =>
         intro u wx hg hC
         have hJ14 : u 14 = (.pointer (some ⟨b, 0, none⟩)) := hC.at 14 (by kernel_rfl)
         have hJ15 : (Rd S) (u 15) wx := hC.at 15 (by kernel_rfl)
         have hJ16 : u 16 = (.int .u8 (x : Int)) := hC.at 16 (by kernel_rfl)
         clear hC; refine wpOp_step rfl (fun K hK => ?_)
         simp only [puts, List.foldl]; go_simp
         refine (HESX.out wx (BA4.out.next hg) _ hJ15).mono ?_
         rintro e w' ⟨rfl, hb'⟩
         exact hK _ _ ⟨rfl, rfl, hg.next hb', hb'⟩
        case ds18 =>
         intro u wx hg hC
         have hJ3 : u 3 = (.pointer (some ⟨b, 0, none⟩)) := hC.at 3 (by kernel_rfl)
         have hJ10 : u 10 = (.int .u8 (l1 : Int)) := hC.at 10 (by kernel_rfl)
         have hJ17 : u 17 = (.int .u8 (l2 : Int)) := hC.at 17 (by kernel_rfl)
         clear hC; refine wpOp_step rfl (fun K hK => ?_)
         simp only [puts, List.foldl]; go_simp
         refine (HDI.out wx (BA4.out.next hg)).mono ?_
         rintro e w' ⟨rfl, hb'⟩
         exact hK _ _ ⟨rfl, rfl, hg.next hb', hb'⟩
        case ds19 =>
         intro u wx hg hC
         have hJ18 : u 18 = (.tuple #[.int .u8 (d0 : Int), .bool b2]) := hC.at 18 (by kernel_rfl)
         clear hC; refine wpOp_step rfl (fun K hK => ?_)
         simp only [puts, List.foldl]; go_simp; exact zK hK hg
        case ds20 | ds21 =>
         intro u wx hg hC
         have hJ19 : u 19 = (.tuple #[.int .u8 (d0 : Int), .bool b2]) := hC.at 19 (by kernel_rfl)
         clear hC; refine wpOp_step rfl (fun K hK => ?_)
         simp only [puts, List.foldl]; go_simp; exact zK hK hg
        case ds22 =>
         intro u wx hg hC
         have hJ20 : u 20 = (.int .u8 (d0 : Int)) := hC.at 20 (by kernel_rfl)
         clear hC; refine wpOp_step rfl (fun K hK => ?_)
         simp only [puts, List.foldl]; go_simp; exact zK hK hg
        case ds23 =>
         intro u wx hg hC
         have hJ21 : u 21 = (.bool b2) := hC.at 21 (by kernel_rfl)
         clear hC; refine wpOp_step rfl (fun K hK => ?_)
         simp only [puts, List.foldl]; go_simp; exact zK hK hg
       case find =>
        intro u w5 hb5 hφ
        have e16 : u 22 = .int .u8 (d0 : Int) := hφ (22, 16) (by decide)
        clear hφ; simp only [puts, List.foldl]; go_simp; have BA5 := zh (BA4.out.next hb5); clear hb5 e16
        have HLT5 : Hid (s < w5.heap.size) := zh (HSR.out.step BA5.out).lt
        have C05' : Hid (w5.cell? ⟨s, 0, none⟩ = some (.pointer (some ⟨b, 0, none⟩))) := zh (HSR.out.step BA5.out).c0
        go_wp2
        refine zmu [(0, 98), (1, 99), (2, 100), (3, 101), (4, 102), (5, 103), (6, 104), (7, 105), (8, 106), (9, 107), (10, 16)]
         (fun ii => [Is (.pointer (some ⟨s, 0, none⟩)), Is (.pointer (some ⟨s, 0, none⟩)), Is (.pointer (some ⟨s, 0, none⟩)), Is (.pointer (some ⟨b, 0, none⟩)), Is (.pointer (some ⟨s, 0, none⟩)), Is (.int .i64 (k : Int)), Is (.int .u8 (mk : Int)), Is (.int .u8 (d0 : Int)), Rd [mk, d0], Is (.int .u8 (dk : Int)), Is (.int .u8 (dk : Int))].getD ii (Is undef))
         (fun w' => Below w5.heap.size w5 w') (by kernel_rfl) (by kernel_rfl) (by decide) (by decide) (by kernel_rfl) rfl ?monoc ((zb).drew) ?stepc ?finc
        case monoc =>
         intro i
         match i with
         | 0 | 1 | 2 | 3 | 4 | 5 | 6 | 7 | 9 | 10 => exact Is.monot _
         | 8 => exact Rd.monot _
         | _ + 11 => exact Is.monot _
        case stepc =>
         refine zf ⟨?cs0, zf ⟨?cs1, zf ⟨?cs2, zf ⟨?cs3, zf ⟨?cs4, zf ⟨?cs5, zf ⟨?cs6, zf ⟨?cs7, zf ⟨?cs8, zf ⟨?cs9, zf ⟨?cs10, List.forall_mem_nil _⟩⟩⟩⟩⟩⟩⟩⟩⟩⟩⟩
         case cs0 | cs4 | cs5 =>
          intro u wx hg hC hOld; clear hC hOld; refine wpOp_step rfl (fun K hK => ?_)
          simp only [puts, List.foldl]; go_simp; exact zK hK hg
         case cs1 =>
          intro u wx hg hC hOld
          have hJ0 : u 0 = (.pointer (some ⟨s, 0, none⟩)) := hC.at 0 (by kernel_rfl)
          clear hC hOld; refine wpOp_step rfl (fun K hK => ?_)
          simp only [puts, List.foldl]; go_simp; exact zK hK hg
         case cs2 =>
          intro u wx hg hC hOld
          have hJ1 : u 1 = (.pointer (some ⟨s, 0, none⟩)) := hC.at 1 (by kernel_rfl)
          clear hC hOld; refine wpOp_step rfl (fun K hK => ?_)
          simp only [puts, List.foldl]; go_simp; exact zK hK hg
         case cs3 =>
          intro u wx hg hC hOld
          have hJ2 : u 2 = (.pointer (some ⟨s, 0, none⟩)) := hC.at 2 (by kernel_rfl)
          clear hC hOld
          have hcl : wx.cell? ⟨s, 0, none⟩ = some (.pointer (some ⟨b, 0, none⟩)) := (hg.cell (p := ⟨s, 0, none⟩) HLT5.out).trans C05'.out
          refine wpOp_step rfl (fun K hK => ?_)
          simp only [puts, List.foldl]; go_simp; exact zK hK hg
         case cs6 =>
          intro u wx hg hC hOld
          have hJ4 : u 4 = (.pointer (some ⟨s, 0, none⟩)) := hC.at 4 (by kernel_rfl)
          have hJ5 : u 5 = (.int .i64 (k : Int)) := hC.at 5 (by kernel_rfl)
          clear hC hOld; refine wpOp_step rfl (fun K hK => ?_)
          simp only [puts, List.foldl]; go_simp
          refine (HMK.out wx (BA5.out.next hg)).mono ?_
          rintro e w' ⟨rfl, hb'⟩
          exact hK _ _ ⟨rfl, rfl, hg.next hb', hb'⟩
         case cs7 =>
          intro u wx hg hC hOld
          have hO10 : u 10 = (.int .u8 (d0 : Int)) := hOld (10, 16) (by decide) (by kernel_rfl)
          clear hC hOld; refine wpOp_step rfl (fun K hK => ?_)
          simp only [puts, List.foldl]; go_simp; exact zK hK hg
         case cs8 =>
          intro u wx hg hC hOld
          have hJ6 : u 6 = (.int .u8 (mk : Int)) := hC.at 6 (by kernel_rfl)
          have hJ7 : u 7 = (.int .u8 (d0 : Int)) := hC.at 7 (by kernel_rfl)
          clear hC hOld; refine wpOp_step rfl (fun K hK => ?_)
          simp only [puts, List.foldl]; go_simp; exact hK _ _ ⟨rfl, ⟨some ⟨wx.heap.size, 0, none⟩, 2, rfl, Nat.le_refl _, Lies.new [_, _] _ _⟩, hg.alloc hg.size _, zab _ _⟩
         case cs9 =>
          intro u wx hg hC hOld
          have hJ3 : u 3 = (.pointer (some ⟨b, 0, none⟩)) := hC.at 3 (by kernel_rfl)
          have hJ8 : (Rd [mk, d0]) (u 8) wx := hC.at 8 (by kernel_rfl)
          clear hC hOld; refine wpOp_step rfl (fun K hK => ?_)
          simp only [puts, List.foldl]; go_simp
          refine (HMU.out wx (BA5.out.next hg) _ hJ8).mono ?_
          rintro e w' ⟨rfl, hb'⟩
          exact hK _ _ ⟨rfl, rfl, hg.next hb', hb'⟩
         case cs10 =>
          intro u wx hg hC hOld
          have hJ9 : u 9 = (.int .u8 (dk : Int)) := hC.at 9 (by kernel_rfl)
          clear hC hOld; refine wpOp_step rfl (fun K hK => ?_)
          simp only [puts, List.foldl]; go_simp; exact zK hK hg
        case finc =>
         intro u w6 hb6 hφ
         have e16 : u 10 = .int .u8 (dk : Int) := hφ (10, 16) (by decide)
         clear hφ; simp only [puts, List.foldl]; go_simp; have HBZ := zh (BA5.out.next hb6); clear hb6 e16
         have HLT6 : Hid (s < w6.heap.size) := zh (HSR.out.step HBZ.out).lt
         have C06' : Hid (w6.cell? ⟨s, 0, none⟩ = some (.pointer (some ⟨b, 0, none⟩))) := zh (HSR.out.step HBZ.out).c0
         have RM6 := zh (RMR.out.step HBZ.out); have OW6 := zh (zbk OWR.out HBZ.out)
         have BB6 := zh (HBR.out.trans (HBZ.out.mono HBR.out.size))
         by_cases hd0 : dk = 0
         .have hdt : ((dk : Int) != 0) = false := by simpa using hd0
          have hdi : (dk : Int) = 0 := by omega
          have HW1 : Hid (wordF W d (k + 1) = wordF W d k) := zh (HWK.out k HKN.out (HDK.out.trans hd0))
          have HA1 : Hid (atF d (k + 1) = atF d k) := zh (ztn d k (HDK.out.trans hd0))
          clear hd0; go_wp2
          go_roundw
          case rel => exact ⟨k + 1, HKN.out, by go_num, by rw [HA1.out]; exact OW6.out, by rw [HW1.out]; exact RM6.out, BB6.out⟩
          case measure => have := HKN.out; simp [intOf]; omega
         .have hdt : ((dk : Int) != 0) = true := by simpa using hd0
          have hdi : ¬ (dk : Int) = 0 := by omega
          have HAT : Hid (atF d (k + 1) = atF d k ++ [k]) := zh (zbli d k (fun e => hd0 (HDK.out.symm.trans e)))
          have hy8 := (HWB.out k).sq k
          have HGL : Hid (gM < w6.heap.size) := zh RM6.out.lt
          have HMC0 : Hid (w6.cell? ⟨gM, k, none⟩ = some (.int .u8 (sq (wordF W d k) k : Int))) := zh (by
           rw [RM6.out.cell, List.getElem?_append_left (by rw [zaf, HWL.out]; exact HKN.out), zbs _ _ (by rw [HWL.out]; exact HKN.out), zas _ _ (by rw [HWL.out]; exact HKN.out)])
          have HWS := zh (HWS.out k HKN.out); rw [HDK.out] at HWS; obtain ⟨y, hy⟩ : ∃ y, sq (wordF W d k) k = y := ⟨_, rfl⟩; rw [hy] at hy8 HMC0 HWS; have HMC := HMC0
          have HAD : Hid (∀ wx, Below w6.heap.size w6 wx -> ∀ v, Rd [y, dk] v wx -> Calls Tryz.prog 150 #[.pointer (some ⟨b, 0, none⟩), v] wx fun e w' => e = .returned (.int .u8 ((y ^^^ dk : Nat) : Int)) ∧ Below wx.heap.size wx w') := zh fun wx hb v hv => by
           have := addV b v [y, dk] wx hv (zdm hy8 HDK8.out) (by simp)
           rwa [zqx] at this
          obtain ⟨q, hq⟩ : ∃ q, y ^^^ dk = q := ⟨_, rfl⟩; rw [hq] at HAD HWS; clear hd0 hy hq hy8; go_wp2
          refine zdv 14 [] [(0, 110), (1, 111), (2, 112), (3, 113), (4, 114), (5, 115), (6, 116), (7, 117), (8, 118), (9, 119), (10, 120), (11, 121), (12, 122), (13, 123)]
           (fun ii => [Is (.slice (some ⟨gM, 0, none⟩) n cm), Is (.int .i64 (k : Int)), Is (.pointer (some ⟨s, 0, none⟩)), Is (.pointer (some ⟨s, 0, none⟩)), Is (.pointer (some ⟨s, 0, none⟩)), Is (.pointer (some ⟨b, 0, none⟩)), Is (.slice (some ⟨gM, 0, none⟩) n cm), Is (.int .i64 (k : Int)), Is (.pointer (some ⟨gM, k, none⟩)), Is (.int .u8 (y : Int)), Is (.int .u8 (dk : Int)), Rd [y, dk], Is (.int .u8 (q : Int)), Is (.pointer (some ⟨gM, k, none⟩))].getD ii (Is undef))
           (fun w' => Below w6.heap.size w6 w') (fun w' => Row w' gM 5 (u8s (wordF W d (k + 1)) ++ ys) ∧ w'.ownsRow (gM + 1) 3 1 u12 (atF d k).length (nats (atF d k)) ∧ Below wc.heap.size wc w') (by kernel_rfl) (by kernel_rfl) (by kernel_rfl) (by kernel_rfl) (by decide) (by decide) (by kernel_rfl) rfl (by kernel_rfl) ?monoe ((zb).drew) ?stepe ?stepXe ?stepSe ?fine
          case monoe =>
           intro i
           match i with
           | 0 | 1 | 2 | 3 | 4 | 5 | 6 | 7 | 8 | 9 | 10 | 12 | 13 => exact Is.monot _
           | 11 => exact Rd.monot _
           | _ + 14 => exact Is.monot _
          case stepe =>
           refine zf ⟨?es0, zf ⟨?es1, zf ⟨?es2, zf ⟨?es3, zf ⟨?es4, zf ⟨?es5, zf ⟨?es6, zf ⟨?es7, zf ⟨?es8, zf ⟨?es9, zf ⟨?es10, zf ⟨?es11, zf ⟨?es12, zf ⟨?es13, List.forall_mem_nil _⟩⟩⟩⟩⟩⟩⟩⟩⟩⟩⟩⟩⟩⟩
           case es0 | es1 | es2 | es6 | es7 | es10 =>
            intro u wx hg hC; clear hC; refine wpOp_step rfl (fun K hK => ?_)
            simp only [puts, List.foldl]; go_simp; exact zK hK hg
           case es3 =>
            intro u wx hg hC
            have hJ2 : u 2 = (.pointer (some ⟨s, 0, none⟩)) := hC.at 2 (by kernel_rfl)
            clear hC; refine wpOp_step rfl (fun K hK => ?_)
            simp only [puts, List.foldl]; go_simp; exact zK hK hg
           case es4 =>
            intro u wx hg hC
            have hJ3 : u 3 = (.pointer (some ⟨s, 0, none⟩)) := hC.at 3 (by kernel_rfl)
            clear hC; refine wpOp_step rfl (fun K hK => ?_)
            simp only [puts, List.foldl]; go_simp; exact zK hK hg
           case es5 =>
            intro u wx hg hC
            have hJ4 : u 4 = (.pointer (some ⟨s, 0, none⟩)) := hC.at 4 (by kernel_rfl)
            clear hC
            have hcl : wx.cell? ⟨s, 0, none⟩ = some (.pointer (some ⟨b, 0, none⟩)) := (hg.cell (p := ⟨s, 0, none⟩) HLT6.out).trans C06'.out
            refine wpOp_step rfl (fun K hK => ?_)
            simp only [puts, List.foldl]; go_simp; exact zK hK hg
           case es8 =>
            intro u wx hg hC
            have hJ6 : u 6 = (.slice (some ⟨gM, 0, none⟩) n cm) := hC.at 6 (by kernel_rfl)
            have hJ7 : u 7 = (.int .i64 (k : Int)) := hC.at 7 (by kernel_rfl)
            clear hC; refine wpOp_step rfl (fun K hK => ?_)
            simp only [puts, List.foldl]; go_simp; exact zK hK hg
           case es9 =>
            intro u wx hg hC
            have hJ8 : u 8 = (.pointer (some ⟨gM, k, none⟩)) := hC.at 8 (by kernel_rfl)
            clear hC
            have hcl : wx.cell? ⟨gM, k, none⟩ = some (.int .u8 (y : Int)) := (hg.cell (p := ⟨gM, k, none⟩) HGL.out).trans HMC.out
            refine wpOp_step rfl (fun K hK => ?_)
            simp only [puts, List.foldl]; go_simp; exact zK hK hg
           case es11 =>
            intro u wx hg hC
            have hJ9 : u 9 = (.int .u8 (y : Int)) := hC.at 9 (by kernel_rfl)
            have hJ10 : u 10 = (.int .u8 (dk : Int)) := hC.at 10 (by kernel_rfl)
            clear hC; refine wpOp_step rfl (fun K hK => ?_)
            simp only [puts, List.foldl]; go_simp; exact hK _ _ ⟨rfl, ⟨some ⟨wx.heap.size, 0, none⟩, 2, rfl, Nat.le_refl _, Lies.new [_, _] _ _⟩, hg.alloc hg.size _, zab _ _⟩
           case es12 =>
            intro u wx hg hC
            have hJ5 : u 5 = (.pointer (some ⟨b, 0, none⟩)) := hC.at 5 (by kernel_rfl)
            have hJ11 : (Rd [y, dk]) (u 11) wx := hC.at 11 (by kernel_rfl)
            clear hC; refine wpOp_step rfl (fun K hK => ?_)
            simp only [puts, List.foldl]; go_simp
            refine (HAD.out wx hg _ hJ11).mono ?_
            rintro e w' ⟨rfl, hb'⟩
            exact hK _ _ ⟨rfl, rfl, hg.next hb', hb'⟩
           case es13 =>
            intro u wx hg hC
            have hJ0 : u 0 = (.slice (some ⟨gM, 0, none⟩) n cm) := hC.at 0 (by kernel_rfl)
            have hJ1 : u 1 = (.int .i64 (k : Int)) := hC.at 1 (by kernel_rfl)
            clear hC; refine wpOp_step rfl (fun K hK => ?_)
            simp only [puts, List.foldl]; go_simp; exact zK hK hg
          case stepXe =>
           intro p hp hx
           cases hx
          case stepSe =>
           intro u w9 hbw9 hφ
           have hv9 : u 12 = .int .u8 (q : Int) := hφ (12, 122) (by decide) (by decide)
           have hp9 : u 13 = .pointer (some ⟨gM, k, none⟩) := hφ (13, 123) (by decide) (by decide)
           clear hφ; have HM9 := zh (RM6.out.step hbw9); have hfz := HM9.out.frozen k; obtain ⟨z9, hcc⟩ : ∃ z, w9.cell? ⟨gM, k, none⟩ = some z := ⟨_, (hbw9.cell (p := ⟨gM, k, none⟩) HGL.out).trans HMC.out⟩; have HB9 := zh (BB6.out.trans (hbw9.mono BB6.out.size)); have HO9 := zh (zbk OW6.out hbw9); clear hbw9; refine wpOp_step rfl (fun K hK => ?_)
           simp only [puts, List.foldl]; go_simp
           refine hK _ _ ⟨rfl, ?_, ownsRow_setCell_below HO9.out (a := ⟨gM, k, none⟩) (Nat.lt_succ_self gM) _, HB9.out.setCell (p := ⟨gM, k, none⟩) HGB.out _⟩
           have := zwy HM9.out k q (by rw [HWL.out]; exact HKN.out)
           rwa [HWS.out] at this
          case fine =>
           rintro u w7 ⟨hm7, ho7, hb7⟩ hφ
           clear hφ; simp only [puts, List.foldl]; go_simp; have RM7 := zh hm7; have OW7 := zh (ho7.alloc (.cells #[.int .i64 (k : Int)] 3)); have HB7 := zh hb7; have HB8 := zh (hb7.alloc hb7.size (.cells #[.int .i64 (k : Int)] 3))
           have HL7 : Hid (Lies (w7.alloc (.cells #[.int .i64 (k : Int)] 3)) (w7.alloc (.cells #[.int .i64 (k : Int)] 3)).heap.size (some ⟨w7.heap.size, 0, none⟩) [.int .i64 (k : Int)]) := zh (Lies.new [_] _ _)
           have HO1 : Hid ((Value.int .i64 (k : Int)).oneCell' = true) := zh rfl
           have HPK : Big ((atF d k).length + 1 <= 1099511627776) := ⟨by have := zbcv d k; have := HKN.out; have := HN.out; omega⟩
           have HZ7 : Hid (gM + 1 <= (w7.alloc (.cells #[.int .i64 (k : Int)] 3)).heap.size) := zh (Nat.le_trans (Nat.succ_le_of_lt RM7.out.lt) (zab _ _).size)
           have HOL : Hid (∀ j, u12.ownBlock = some j -> gM + 1 <= j) := zh fun j hj => (OW7.out.lt j hj).1
           clear hm7 ho7 hb7
           go_wp2_with (first
            | ((with_reducible refine wpAppend1K OW7.out Tryz.underlying47 zlw HL7.out HO1.out HPK HZ7.out ?_ ?_); rfl; intro v8 w8 g1 g2 g3; have HV8' := zh g1; have HG8 := zh g2; clear g1 g2 g3))
           go_roundw
           case rel => exact ⟨k + 1, HKN.out, by go_num, by rw [HAT.out, zhq, List.length_append]; exact HV8'.out, (RM7.out.alloc _).grown HG8.out (fun e => by have := HOL.out gM e.symm; omega), HB8.out.grown HG8.out HB8.out.size (fun j hj => Nat.le_trans HGB.out (Nat.le_of_lt (HOL.out j hj)))⟩
           case measure => have := HKN.out; simp [intOf]; omega
      .have HDK : Hid (d k = 0) := zh (by rw [HDKX.out, if_pos ha])
       have HW1 : Hid (wordF W d (k + 1) = wordF W d k) := zh (HWK.out k HKN.out HDK.out)
       have HA1 : Hid (atF d (k + 1) = atF d k) := zh (ztn d k HDK.out)
       have HEV : Hid (∀ u, Below wr.heap.size wr u -> Rd A av u -> Calls Tryz.prog 174 #[.pointer (some ⟨b, 0, none⟩), av, .int .u8 (x : Int)] u fun e w' => e = .returned (.int .u8 (ev A x : Int)) ∧ Below u.heap.size u w') := zh fun u hb hr => HEA.out u (HBW2.out.next hb) av hr x HX8.out
       obtain ⟨l0, hl0⟩ : ∃ l, ev A x = l := ⟨_, rfl⟩; rw [hl0] at HEV ha
       have hat : ((l0 : Int) != 0) = true := by simpa using ha
       have hai : ¬ (l0 : Int) = 0 := by omega
       clear ha hl0 HDKX HDK
       go_wp2_with (go_at_call 174; (with_reducible refine (HEV.out w3 BA3.out HRA3.out).mono ?_); rintro e w4 ⟨rfl, b4⟩; have BA4 := zh (BA3.out.next b4); clear b4)
       go_roundw
       case rel => exact ⟨k + 1, HKN.out, by go_num, by rw [HA1.out]; exact zbk OWR.out BA4.out, by rw [HW1.out]; exact RMR.out.step BA4.out, HBR.out.trans (BA4.out.mono HBR.out.size)⟩
       case measure => have := HKN.out; simp [intOf]; omega
    .obtain rfl : k = n := by omega
     obtain ⟨a1, c1', e1, h1, h2⟩ := zld how
     have HV1 : Hid (IReads wr u12 (atF d k)) := zh ⟨a1, c1', e1, h1, h2⟩
     have HL1 : Hid (Lies wr wr.heap.size (some ⟨gM, 0, none⟩) (u8s (wordF W d k))) := zh fun h0 => ⟨gM, 0, rfl, hrm.lt, fun j v hj => by
      rw [Nat.zero_add, hrm.cell, List.getElem?_append_left (List.getElem?_eq_some_iff.1 hj).1]
      exact hj⟩
     clear how hrm hbr e1 h2; go_wp2; go_ret2; exact ⟨⟨_, _, rfl, ⟨gM, cm, rfl, HCM.out, Nat.le_trans HBC.out.size HGB.out, HL1.out⟩, HV1.out⟩, HBC.out.next HBR.out⟩
def IRd (l : List Nat) : Value -> World -> Prop := fun v w => IReads w v l
theorem IRd.monot (l : List Nat) : Monot (IRd l) := fun _ _ _ h hb => IReads.step h hb
def MkB (B n : Nat) : Value -> World -> Prop := fun v w => ∃ g, v = .slice (some ⟨g, 0, none⟩) n n ∧ B <= g ∧ Row w g 4 (bools (noneG n))
theorem MkB.monot (B n : Nat) : Monot (MkB B n) := fun _ _ _ ⟨g, h1, h2, h3⟩ hb => ⟨g, h1, h2, h3.step hb⟩
theorem zxx (n : Nat) : bools (noneG n) = List.replicate n (.bool false) := by simp [bools, noneG]
theorem zbfa : (Tryz.prog.info? 4).map (fun i => (i.zero, i.size, i.bytes)) = some (some (.bool false), 1, 8) ∨ (Tryz.prog.info? 4).map (fun i => (i.zero, i.size, i.bytes)) = some (some (.bool false), 1, 1) := Or.inr (by kernel_rfl)
def Mdd (B : Nat) (d : Md) (n : Nat) (e : Ending) (w' : World) : Prop :=
 match d with
 | .arg => e = .returned (.tuple #[.slice none 0 0, .slice none 0 0, .int .i64 1])
 | .bad => e = .returned (.tuple #[.slice none 0 0, .slice none 0 0, .int .i64 8])
 | .ok m l => ∃ gm cm y, e = .returned (.tuple #[.slice (some ⟨gm, 0, none⟩) n cm, y, .int .i64 0]) ∧ n <= cm ∧ B <= gm ∧ Lies w' w'.heap.size (some ⟨gm, 0, none⟩) (u8s m) ∧ IReads w' y l
theorem zbbj {T : List Nat} (hT : By T) {p : Nat} (lost : Nat) (hp : p <= 64) : By (masseyF p T lost) ∧ (masseyF p T lost).length <= 300 := by
 have := zlr hT lost (p - lost)
 exact ⟨this.r8, by have := this.rl; unfold masseyF; omega⟩
theorem zsn (c b k p : Nat) (wb wo cw : Nat) (W : List Nat) (ea : Option Addr) (ecap : Nat) (er : List Int) (w : World) (h : Cod w c b k p) (hWl : W.length = k + p) (hWc : W.length <= cw) (hW8 : By W) (hW : Lies w w.heap.size (some ⟨wb, wo, none⟩) (u8s W)) (hel : er.length <= 1000) (her : Lies w w.heap.size ea (ints er)) :
  Calls Tryz.prog 135 #[.pointer (some ⟨c, 0, none⟩), .slice (some ⟨wb, wo, none⟩) (k + p) cw, .slice ea er.length ecap, .func (.func 136) #[] #[]] w fun e w' =>
   Mdd w.heap.size (mendF masseyF (k + p) p W er) (k + p) e w' ∧ Below w.heap.size w w' := by
 obtain ⟨a', cap', hcor, _⟩ := h.cor
 have HK : Hid (1 <= k ∧ 1 <= p ∧ k + p <= 255 ∧ p <= 64) := zh ⟨h.k1, h.p1, h.n255, h.p64⟩
 have HCOR := zh hcor
 have HWR := zh hW
 have HER := zh her
 have HW8 := zh hW8
 have HSY : Hid (Calls Tryz.prog 154 #[.pointer (some ⟨c, 0, none⟩), .slice (some ⟨wb, wo, none⟩) (k + p) cw] w fun e w' =>
   (∃ g, e = .returned (.tuple #[.slice (some ⟨g, 0, none⟩) p p, .int .i64 0]) ∧ w.heap.size <= g ∧ Row w' g 5 (u8s (vals W p))) ∧ Below w.heap.size w w') := zh (zbac c b k p _ (some ⟨wb, wo, none⟩) cw W w hcor h.n255 hWl hW8 hWc hW)
 have HSZ : Hid (∀ u, Below w.heap.size w u -> Calls Tryz.prog 105 #[.pointer (some ⟨c, 0, none⟩)] u fun e w' => e = .returned (.tuple #[.int .i64 ((k + p : Nat) : Int), .int .i64 (k : Int)]) ∧ Below u.heap.size u w') := zh fun u hb => zie c b k p _ u (hcor.step hb)
 have HOV : Hid (∀ u, Below w.heap.size w u -> Calls Tryz.prog 104 #[.pointer (some ⟨c, 0, none⟩)] u fun e w' => e = .returned (.pointer (some ⟨b, 0, none⟩)) ∧ Below u.heap.size u w') := zh fun u hb => (zid c b k p _ u (hcor.step hb)).mono fun e w' ⟨h1, h2⟩ => ⟨h1, h2 ▸ zb⟩
 have HV8 : Hid (By (vals W p)) := zh (zbv _ fun i _ => zbh hW8 (ex_lt i))
 have HVL : Hid ((vals W p).length = p) := zh (zcs _ _)
 have HVR : Hid (valsR W p = (vals W p).reverse) := zh rfl
 have HRT : Hid (∀ u, Below w.heap.size w u -> ∀ gm cm m, m.length = k + p -> By m -> m.length <= cm -> Lies u u.heap.size (some ⟨gm, 0, none⟩) (u8s m) -> Calls Tryz.prog 158 #[.pointer (some ⟨c, 0, none⟩), .slice (some ⟨gm, 0, none⟩) (k + p) cm] u fun e w' => e = .returned (.bool (allz (vals m p))) ∧ Below u.heap.size u w') := zh fun u hb gm cm m h1 h2 h3 h4 => zwc c b k p _ (some ⟨gm, 0, none⟩) cm m u (hcor.step hb) h.n255 h1 h2 h3 h4
 have HWI : Hid (∀ u, Below w.heap.size w u -> ∀ x y : Nat, x <= 100000 -> y <= 100000 -> Calls Tryz.prog 159 #[.pointer (some ⟨c, 0, none⟩), .int .i64 (x : Int), .int .i64 (y : Int)] u fun e w' => e = .returned (.bool (decide (x <= p ∧ y <= (p - x) / 2))) ∧ Below u.heap.size u w') := zh fun u hb x y h1 h2 => zbci c b k p _ x y u (hcor.step hb) h.n255 h1 h2
 have HFB : Hid (b < w.heap.size ∧ Fld w b) := zh ⟨hcor.2.lt, hcor.2⟩
 have HMF0 : Hid (mendF masseyF (k + p) p W er = if inB (k + p) er = false then .arg else if allz (vals (layW (k + p) p W (valsR W p) (masseyF p (toldF p (valsR W p) (erF (k + p) (markE (k + p) er) (k + p))) (cnt (markE (k + p) er))) (erF (k + p) (markE (k + p) er) (k + p))) p) = true ∧ cnt (markE (k + p) er) <= p ∧ othF (markE (k + p) er) (layP (k + p) p (valsR W p) (masseyF p (toldF p (valsR W p) (erF (k + p) (markE (k + p) er) (k + p))) (cnt (markE (k + p) er))) (erF (k + p) (markE (k + p) er) (k + p))) <= (p - cnt (markE (k + p) er)) / 2 then .ok (layW (k + p) p W (valsR W p) (masseyF p (toldF p (valsR W p) (erF (k + p) (markE (k + p) er) (k + p))) (cnt (markE (k + p) er))) (erF (k + p) (markE (k + p) er) (k + p))) (layP (k + p) p (valsR W p) (masseyF p (toldF p (valsR W p) (erF (k + p) (markE (k + p) er) (k + p))) (cnt (markE (k + p) er))) (erF (k + p) (markE (k + p) er) (k + p))) else .bad) := zh rfl
 obtain ⟨MF, hMF⟩ : ∃ MF, mendF masseyF (k + p) p W er = MF := ⟨_, rfl⟩
 rw [hMF] at HMF0 ⊢
 have HGN : Hid (markE (k + p) er = setG (noneG (k + p)) er) := zh rfl
 have HGL : Hid ((markE (k + p) er).length = k + p) := zh (by rw [HGN.out, zmv, noneG, List.length_replicate])
 have HG0 : Hid (cnt (noneG (k + p)) = 0) := zh (by unfold cnt noneG; simp [List.count_replicate])
 obtain ⟨n, hnn⟩ : ∃ n, k + p = n := ⟨_, rfl⟩
 rw [hnn] at HK HSY HSZ HRT HMF0 HGN HGL HG0 hWl ⊢
 have hnk : (n : Int) - (k : Int) = (p : Int) := by omega
 have hkp := HK.out
 have hnb : (n : Int) <= 255 := by omega
 have hn0 : 1 <= (n : Int) := by omega
 have hkb : (k : Int) <= 255 := by omega
 have hpb : (p : Int) <= 64 := by omega
 have hp0 : 1 <= (p : Int) := by omega
 have hpw : IntKind.i64.wrap (p : Int) = (p : Int) := by rw [IntKind.wrap_i64]; omega
 have HWL := zh hWl
 have HN1 : Hid (1 <= n) := zh (by omega)
 have HELN : Hid (er.length <= 1000) := zh hel
 have heli : (er.length : Int) <= 1000 := by omega
 obtain ⟨ne, hne⟩ : ∃ ne, er.length = ne := ⟨_, rfl⟩
 have HEL2 : Hid (er.length = ne) := zh hne
 rw [hne] at heli ⊢
 obtain ⟨X, hX⟩ : ∃ X, vals W p = X := ⟨_, rfl⟩
 rw [hX] at HSY HV8 HVL HVR
 clear hX hne hcor hW her hW8 h hWl hWc hMF hnn hkp hel
 go_enter Tryz.func135, Tryz.ntmps135
 go_wp2_with (first
  | (go_at_call 154; (with_reducible refine HSY.out.mono ?_); rintro e w1 ⟨⟨gv, rfl, q1, r1⟩, b1⟩; have R1 := zh r1; have B1 := zh b1; clear q1 r1 b1)
  | (go_at_call 105; (with_reducible refine (HSZ.out w1 B1.out).mono ?_); rintro e w2 ⟨rfl, b2⟩; have R2 := zh (R1.out.step b2); have B2 := zh (B1.out.next b2); clear b2))
 clear R1 B1 HSY HSZ
 refine zdr 8 [(0, 32), (1, 33), (2, 34), (3, 35), (4, 36), (5, 37), (6, 38), (7, 39)]
  (fun ii => [Is (.pointer (some ⟨c, 0, none⟩)), Is (.pointer (some ⟨b, 0, none⟩)), Is (.int .i64 (n : Int)), Is (.int .i64 (n : Int)), Is (.int .i64 (k : Int)), Is (.int .i64 (p : Int)), Is (.int .i64 (n : Int)), MkB w2.heap.size n].getD ii (Is undef))
  (fun w' => Below w2.heap.size w2 w') (by kernel_rfl) (by decide) (by kernel_rfl) (by kernel_rfl) (by kernel_rfl) (by decide) (by decide) (by kernel_rfl) rfl ?monoa ((zb).drew) ?stepa ?fina
 case monoa =>
  intro i
  match i with
  | 0 | 1 | 2 | 3 | 4 | 5 | 6 => exact Is.monot _
  | 7 => exact MkB.monot _ _
  | _ + 8 => exact Is.monot _
 case stepa =>
  refine zf ⟨?as0, zf ⟨?as1, zf ⟨?as2, zf ⟨?as3, zf ⟨?as4, zf ⟨?as5, zf ⟨?as6, zf ⟨?as7, List.forall_mem_nil _⟩⟩⟩⟩⟩⟩⟩⟩
  case as0 | as2 | as3 | as4 | as6 =>
   intro u wx hg hC; clear hC; refine wpOp_step rfl (fun K hK => ?_)
   simp only [puts, List.foldl]; go_simp; exact zK hK hg
  case as1 =>
   intro u wx hg hC
   have hJ0 : u 0 = (.pointer (some ⟨c, 0, none⟩)) := hC.at 0 (by kernel_rfl)
   clear hC; refine wpOp_step rfl (fun K hK => ?_)
   simp only [puts, List.foldl]; go_simp
   refine (HOV.out wx (B2.out.next hg)).mono ?_
   rintro e w' ⟨rfl, hb'⟩
   exact hK _ _ ⟨rfl, rfl, hg.next hb', hb'⟩
  case as5 =>
   intro u wx hg hC
   have hJ3 : u 3 = (.int .i64 (n : Int)) := hC.at 3 (by kernel_rfl)
   have hJ4 : u 4 = (.int .i64 (k : Int)) := hC.at 4 (by kernel_rfl)
   clear hC; refine wpOp_step rfl (fun K hK => ?_)
   simp only [puts, List.foldl]; go_simp; exact zK hK hg
  case as7 =>
   intro u wx hg hC
   have hJ6 : u 6 = (.int .i64 (n : Int)) := hC.at 6 (by kernel_rfl)
   clear hC; refine wpOp_step rfl (fun K hK => ?_)
   rw [if_pos (by rfl)]
   generalize hA : puts [(0, 32), (1, 33), (2, 34), (3, 35), (4, 36), (5, 37), (6, 38), (7, 39)] _ u = A at hK ⊢
   have h38 : A.tmps.getD 38 undef = .int .i64 (n : Int) := by rw [<- hA, <- hJ6]; exact zat u 6 38 _ _ (by decide) (by decide) (by kernel_rfl)
   have hsz : 39 < A.tmps.size := by rw [<- hA]; exact zaq u (by kernel_rfl)
   clear hA hJ6
   refine opMakeK (φ := MkB w2.heap.size n) (G := fun w' => Below w2.heap.size w2 w') 39 ?_ ?_ ?_ 108 4 (.bool false) n n ?_ ?_ ?_ ?_ ?_ ?_ ?_
   .rfl
   .exact hsz
   .exact hK
   .exact Tryz.underlying108
   .exact zbfa
   .rfl
   .exact Nat.le_refl _
   .have := HK.out; omega
   .exact zjf 108 38 rfl rfl h38
   .exact fun w' r' b' => ⟨⟨wx.heap.size, rfl, hg.size, by rw [zxx]; exact r'⟩, hg.next b'⟩
 case fina =>
  intro u w4 hb4 hφ
  obtain ⟨g, e7, hg1, hrow⟩ : MkB w2.heap.size n (u 7) w4 := hφ (7, 39) (by decide)
  have e1 : u 1 = .pointer (some ⟨b, 0, none⟩) := hφ (1, 33) (by decide)
  have e2 : u 2 = .int .i64 (n : Int) := hφ (2, 34) (by decide)
  have e5 : u 5 = .int .i64 (p : Int) := hφ (5, 37) (by decide)
  clear hφ
  simp only [puts, List.foldl]
  go_simp
  have B4 := zh hb4
  have HGR := zh hrow
  have HG1 : Hid (w2.heap.size <= g) := zh hg1
  clear hb4 hrow hg1 e7 e1 e2 e5
  go_wp2_with (first
   | ((with_reducible refine wpBoxK (solL b n p g 0 (.slice none 0 0) (.slice none 0 0) (.slice none 0 0)) 233 ?_ ?_); rfl; intro w5 r5 b5 s5; have R5 := zh r5; have B5 := zh b5; clear r5 b5 s5))
  have HS5 : Hid (Sol w5 w4.heap.size b n p g (noneG n) (cnt (noneG n)) (.slice none 0 0) (.slice none 0 0) (.slice none 0 0)) := zh (by
   rw [HG0.out]; exact ⟨R5.out, HGR.out.step B5.out, ((HFB.out.2.step B2.out).step B4.out).step B5.out, Nat.ne_of_lt HGR.out.lt, by rw [noneG, List.length_replicate], ⟨_, _, _, rfl⟩, ⟨_, _, _, rfl⟩, ⟨_, _, _, rfl⟩⟩)
  have HBS : Hid (w2.heap.size <= w4.heap.size) := zh B4.out.size
  have HB2 : Hid (b < w2.heap.size) := zh (Nat.lt_of_lt_of_le HFB.out.1 B2.out.size)
  have B52 := zh (B4.out.next B5.out)
  obtain ⟨s, hs⟩ : ∃ s, w4.heap.size = s := ⟨_, rfl⟩
  rw [hs] at HS5 HBS R5 ⊢
  have HERA : Hid (Calls Tryz.prog 155 #[.pointer (some ⟨s, 0, none⟩), .slice ea ne ecap] w5 fun e w' => e = .returned (.bool (inB n er)) ∧ (inB n er = true -> Sol w' s b n p g (markE n er) (cnt (markE n er)) (.slice none 0 0) (.slice none 0 0) (.slice none 0 0)) ∧ Below w2.heap.size w5 w') := zh (by
   rw [HGN.out, <- HEL2.out]; exact zbeh w2.heap.size s b n p g (noneG n) _ _ _ ea ecap er w5 HS5.out (by have := HK.out; omega) HELN.out ((HER.out.step B2.out).below B52.out) HB2.out HBS.out HG1.out)
  have HLK : Hid (∀ w6, Below w2.heap.size w2 w6 -> Sol w6 s b n p g (markE n er) (cnt (markE n er)) (.slice none 0 0) (.slice none 0 0) (.slice none 0 0) -> Calls Tryz.prog 156 #[.pointer (some ⟨s, 0, none⟩), .slice (some ⟨gv, 0, none⟩) p p] w6 fun e w' => e = .returned (.tuple #[]) ∧
    (∃ V' E' T', Sol w' s b n p g (markE n er) (cnt (markE n er)) V' E' T' ∧ Reads w' V' (valsR W p) ∧ Reads w' E' (erF n (markE n er) n) ∧ Reads w' T' (toldF p (valsR W p) (erF n (markE n er) n))) ∧ Below w2.heap.size w6 w') := zh fun w6 hb hs => by
   rw [HVR.out]; have hk := HK.out; exact zbja w2.heap.size s b n p g _ gv _ _ _ _ X w6 hs (by omega) (by omega) (by omega) HVL.out HV8.out (R2.out.below hb R2.out.lt) HB2.out HBS.out HG1.out
  obtain ⟨G, hG⟩ : ∃ G, markE n er = G := ⟨_, rfl⟩
  rw [hG] at HERA HLK HMF0 HGL
  obtain ⟨lost, hlost⟩ : ∃ l, cnt G = l := ⟨_, rfl⟩
  have HLO : Hid (lost <= 255) := zh (by rw [<- hlost]; have := zbdk G; rw [HGL.out] at this; have := HK.out; omega)
  rw [hlost] at HERA HLK HMF0
  have HE8 : Hid (By (erF n G n) ∧ (erF n G n).length <= n + 1) := zh (zfi n G n)
  obtain ⟨E, hE⟩ : ∃ E, erF n G n = E := ⟨_, rfl⟩
  rw [hE] at HLK HMF0 HE8
  have HVR8 : Hid (By (valsR W p) ∧ (valsR W p).length = p) := zh (by rw [HVR.out]; exact ⟨byRev HV8.out, by rw [List.length_reverse]; exact HVL.out⟩)
  have HT8 : Hid (By (toldF p (valsR W p) E) ∧ (toldF p (valsR W p) E).length <= p) := zh ⟨zeb (zbo HVR8.out.1 HE8.out.1) p, zuv p _⟩
  obtain ⟨VL, hVL⟩ : ∃ VL, valsR W p = VL := ⟨_, rfl⟩
  rw [hVL] at HLK HMF0 HVR8 HT8
  obtain ⟨T, hT⟩ : ∃ T, toldF p VL E = T := ⟨_, rfl⟩
  rw [hT] at HLK HMF0 HT8
  obtain ⟨bo, hbo⟩ : ∃ bo, inB n er = bo := ⟨_, rfl⟩
  rw [hbo] at HERA HMF0
  clear hs hG hlost hE hVL hT hbo HGN HG0 HVR HEL2 HVL HV8 HGR R5 B5 B4
  cases bo with
  | false =>
   have HO : Hid (MF = .arg) := zh (by rw [HMF0.out]; rfl)
   clear HMF0
   go_wp2_with (go_at_call 155; (with_reducible refine HERA.out.mono ?_); rintro e w6 ⟨rfl, q6, b6⟩; have B6 := zh ((B2.out.next B52.out).trans (b6.mono B2.out.size)); clear q6 b6)
   go_ret3; exact ⟨by rw [HO.out]; rfl, B6.out⟩
  | true =>
   have HR8 : Hid (By (masseyF p T lost) ∧ (masseyF p T lost).length <= 300) := zh (zbbj HT8.out.1 lost (by have := HK.out; omega))
   obtain ⟨RL, hRL⟩ : ∃ RL, masseyF p T lost = RL := ⟨_, rfl⟩
   have HRL : Hid (masseyF p T lost = RL) := zh hRL
   rw [hRL] at HMF0 HR8
   have HMW : Hid (By (layW n p W VL RL E) ∧ (layW n p W VL RL E).length = n) := zh ⟨zwz HW8.out (fun i => zua n (zeb (zbo HVR8.out.1 (zbo HR8.out.1 HE8.out.1)) p) i) n, by rw [<- HWL.out]; exact zlq _ _ _⟩
   have HPL : Hid (∀ x ∈ layP n p VL RL E, x < n) := zh fun x hx => by
    have := (List.mem_filter.1 hx).1
    simpa using this
   have HPN : Hid ((layP n p VL RL E).length <= n) := zh (zbcv _ n)
   obtain ⟨m, hm⟩ : ∃ m, layW n p W VL RL E = m := ⟨_, rfl⟩; obtain ⟨PL, hPL⟩ : ∃ PL, layP n p VL RL E = PL := ⟨_, rfl⟩
   have HLAY : Hid (∀ w7, Below w2.heap.size w2 w7 -> ∀ V' E' T' rv, Sol w7 s b n p g G lost V' E' T' -> Reads w7 V' VL -> Reads w7 E' E -> Reads w7 rv RL -> Calls Tryz.prog 157 #[.pointer (some ⟨s, 0, none⟩), .slice (some ⟨wb, wo, none⟩) n cw, rv] w7 fun e w' =>
     (∃ x y, e = .returned (.tuple #[x, y]) ∧ (∃ gm cm, x = .slice (some ⟨gm, 0, none⟩) n cm ∧ n <= cm ∧ w7.heap.size <= gm ∧ Lies w' w'.heap.size (some ⟨gm, 0, none⟩) (u8s m)) ∧ IReads w' y PL) ∧ Below w7.heap.size w7 w') := zh fun w7 hb V' E' T' rv h1 h2 h3 h4 => by
    have hk := HK.out; have he := HE8.out; have hv := HVR8.out; rw [<- hm, <- hPL]; exact zbmf s b n p g lost G V' E' T' VL E W RL rv wb wo cw w7 h1 HN1.out (by omega) (by omega) (by omega) h2 hv.1 (by omega) h3 he.1 (by omega) h4 HR8.out.1 HR8.out.2 ((HWR.out.step B2.out).step hb) HWL.out HW8.out
   rw [hm, hPL] at HMF0; rw [hm] at HMW; rw [hPL] at HPL HPN
   have HSEEK : Hid (∀ w7, ∀ V' E' T', Sol w7 s b n p g G lost V' E' T' -> Reads w7 T' T -> Calls Tryz.prog 136 #[.pointer (some ⟨s, 0, none⟩)] w7 fun e w' => (∃ v, e = .returned v ∧ Reads w' v RL) ∧ Below w7.heap.size w7 w') := zh fun w7 V' E' T' h1 h2 => by
    have hk := HK.out; have ht := HT8.out; rw [<- HRL.out]; exact zbbk s b n p g lost G V' E' T' T w7 h1 h2 ht.1 (by omega) (by omega) HLO.out
   obtain ⟨oth, hoth⟩ : ∃ o, othF G PL = o := ⟨_, rfl⟩
   have HOT0 : Hid (othF G PL = oth) := zh hoth
   have HOB : Hid (oth <= 255) := zh (by rw [<- hoth]; have := zbfp G PL; have := HPN.out; have := HK.out; omega)
   rw [hoth] at HMF0; obtain ⟨ri, hri⟩ : ∃ r, allz (vals m p) = r := ⟨_, rfl⟩
   have HRI : Hid (allz (vals m p) = ri) := zh hri
   obtain ⟨wi, hwi⟩ : ∃ r, decide (lost <= p ∧ oth <= (p - lost) / 2) = r := ⟨_, rfl⟩
   have HWD : Hid (decide (lost <= p ∧ oth <= (p - lost) / 2) = wi) := zh hwi
   have HOK : Hid (ri = true -> wi = true -> MF = .ok m PL) := zh fun h1 h2 => by
    rw [HMF0.out, if_neg (by simp), hri, h1, if_pos ⟨rfl, by rw [h2] at hwi; exact of_decide_eq_true hwi⟩]
   have HBAD : Hid (ri = false ∨ wi = false -> MF = .bad) := zh fun h1 => by
    rw [HMF0.out, if_neg (by simp), hri]
    refine if_neg fun h2 => ?_
    rcases h1 with h1 | h1
    .rw [h1] at h2; exact absurd h2.1 (by simp)
    .rw [h1] at hwi; exact of_decide_eq_false hwi h2.2
   clear HMF0 hRL hm hPL hoth hri hwi
   go_wp2_with (first
    | (go_at_call 155; (with_reducible refine HERA.out.mono ?_); rintro e w6 ⟨rfl, q6, b6⟩; have B6 := zh (B52.out.trans b6); have S6 := zh (q6 rfl); clear q6 b6)
    | (go_at_call 156; (with_reducible refine (HLK.out w6 B6.out S6.out).mono ?_); rintro e w7 ⟨rfl, ⟨V', E', T', s7, v7, e7, t7⟩, b7⟩; have B7 := zh (B6.out.trans b7); have S7 := zh s7; have V7 := zh v7; have E7 := zh e7; have T7 := zh t7; clear s7 v7 e7 t7 b7)
    | (go_at_call 136; (with_reducible refine (HSEEK.out w7 V' E' T' S7.out T7.out).mono ?_); rintro e w7' ⟨⟨rv, rfl, r7⟩, b7⟩; have R7 := zh r7; have B7' := zh (B7.out.trans (b7.mono B7.out.size)); have S7' := zh (S7.out.step b7); have V7' := zh (V7.out.step b7); have E7' := zh (E7.out.step b7); clear r7 b7)
    | (go_at_call 157; (with_reducible refine (HLAY.out w7' B7'.out V' E' T' rv S7'.out V7'.out E7'.out R7.out).mono ?_); rintro e w8 ⟨⟨ox, ov, rfl, ⟨gM, cm, rfl, q8, q9, l8⟩, i8⟩, b8⟩; have HGN : Hid (w.heap.size <= gM) := zh (Nat.le_trans (B2.out.next B7'.out).size q9); have HCM : Hid (n <= cm) := zh q8; have LM8 := zh l8; have IP8 := zh i8; have B8 := zh (B2.out.next (B7'.out.trans (b8.mono B7'.out.size))); have S8 := zh (S7'.out.step b8); clear q8 q9 l8 i8 b8))
   have HLT : Hid (s < w8.heap.size) := zh S8.out.lt
   have C4 := zh S8.out.c4; clear B6 S6 B7 S7 V7 E7 T7 R7 B7' S7' V7' E7'
   have HWIN : Hid (∀ wx, Below w8.heap.size w8 wx -> Calls Tryz.prog 159 #[.pointer (some ⟨c, 0, none⟩), .int .i64 (lost : Int), .int .i64 (oth : Int)] wx fun e w' => e = .returned (.bool wi) ∧ Below wx.heap.size wx w') := zh fun wx hb => by
    rw [<- HWD.out]; exact HWI.out wx (B8.out.next hb) lost oth (by have := HLO.out; omega) (by have := HOB.out; omega)
   have HOT : Hid (∀ wx, Below w8.heap.size w8 wx -> ∀ v, IRd PL v wx -> Calls Tryz.prog 160 #[.pointer (some ⟨s, 0, none⟩), v] wx fun e w' => e = .returned (.int .i64 (oth : Int)) ∧ Below wx.heap.size wx w') := zh fun wx hb v hv => by
    obtain ⟨a, c, rfl, h1, h2⟩ := hv; rw [<- HOT0.out]; exact (zbbq s b n p g G lost V' E' T' a c PL wx (S8.out.step hb) (by have := HK.out; omega) (by have := HPN.out; have := HK.out; omega) HPL.out h2).mono fun e w' ⟨h1, h2⟩ => ⟨h1, h2 ▸ zb⟩
   have HRIG : Hid (∀ wx, Below w8.heap.size w8 wx -> Calls Tryz.prog 158 #[.pointer (some ⟨c, 0, none⟩), .slice (some ⟨gM, 0, none⟩) n cm] wx fun e w' => e = .returned (.bool ri) ∧ Below wx.heap.size wx w') := zh fun wx hb => by
    rw [<- HRI.out]; exact HRT.out wx (B8.out.next hb) gM cm m HMW.out.2 HMW.out.1 (by rw [HMW.out.2]; exact HCM.out) (LM8.out.step hb)
   cases ri with
   | true =>
    refine zak [(0, 58), (1, 59), (2, 60), (3, 61), (4, 62), (5, 63), (6, 64), (7, 65), (8, 66), (9, 67), (10, 68), (11, 69), (12, 70), (13, 71), (14, 72), (15, 73)]
     (fun ii => [Is (.pointer (some ⟨c, 0, none⟩)), Is (.slice (some ⟨gM, 0, none⟩) n cm), Is (.bool true), Is (.bool false), Is (.bool false), Is (.pointer (some ⟨c, 0, none⟩)), Is (.pointer (some ⟨s, 0, none⟩)), Is (.pointer (some ⟨s, 0, none⟩)), Is (.pointer (some ⟨s, 4, none⟩)), Is (.int .i64 (lost : Int)), Is (.pointer (some ⟨s, 0, none⟩)), IRd PL, Is (.int .i64 (oth : Int)), Is (.bool wi), Is (.bool (!wi)), Is (.bool (!wi))].getD ii (Is undef))
     (fun w' => Below w8.heap.size w8 w') (by kernel_rfl) (by kernel_rfl) (by decide) (by decide) (by kernel_rfl) rfl ?monok ((zb).drew) ?stepk ?fink
    case monok =>
     intro i
     match i with
     | 0 | 1 | 2 | 3 | 4 | 5 | 6 | 7 | 8 | 9 | 10 | 12 | 13 | 14 | 15 => exact Is.monot _
     | 11 => exact IRd.monot _
     | _ + 16 => exact Is.monot _
    case stepk =>
     refine zf ⟨?ks0, zf ⟨?ks1, zf ⟨?ks2, zf ⟨?ks3, zf ⟨?ks4, zf ⟨?ks5, zf ⟨?ks6, zf ⟨?ks7, zf ⟨?ks8, zf ⟨?ks9, zf ⟨?ks10, zf ⟨?ks11, zf ⟨?ks12, zf ⟨?ks13, zf ⟨?ks14, zf ⟨?ks15, List.forall_mem_nil _⟩⟩⟩⟩⟩⟩⟩⟩⟩⟩⟩⟩⟩⟩⟩⟩
     case ks0 | ks1 =>
      intro u wx hg hC; clear hC; refine wpOp_step rfl (fun K hK => ?_)
      simp only [puts, List.foldl]; go_simp; exact zK hK hg
     case ks2 =>
      intro u wx hg hC
      have hJ0 : u 0 = (.pointer (some ⟨c, 0, none⟩)) := hC.at 0 (by kernel_rfl)
      have hJ1 : u 1 = (.slice (some ⟨gM, 0, none⟩) n cm) := hC.at 1 (by kernel_rfl)
      clear hC; refine wpOp_step rfl (fun K hK => ?_)
      simp only [puts, List.foldl]; go_simp
      refine (HRIG.out wx hg).mono ?_
      rintro e w' ⟨rfl, hb'⟩
      exact hK _ _ ⟨rfl, rfl, hg.next hb', hb'⟩
     case ks3 =>
      intro u wx hg hC
      have hJ2 : u 2 = (.bool true) := hC.at 2 (by kernel_rfl)
      clear hC; refine wpOp_step rfl (fun K hK => ?_)
      simp only [puts, List.foldl]; go_simp; exact zK hK hg
     case ks4 =>
      intro u wx hg hC
      have hJ3 : u 3 = (.bool false) := hC.at 3 (by kernel_rfl)
      clear hC; refine wpOp_step rfl (fun K hK => ?_)
      simp only [puts, List.foldl]; go_simp; exact zK hK hg
     case ks5 | ks6 | ks10 =>
      intro u wx hg hC
      have hJ4 : u 4 = (.bool false) := hC.at 4 (by kernel_rfl)
      clear hC; generalize hA : puts [(0, 58), (1, 59), (2, 60), (3, 61), (4, 62), (5, 63), (6, 64), (7, 65), (8, 66), (9, 67), (10, 68), (11, 69), (12, 70), (13, 71), (14, 72), (15, 73)] _ u = A
      have hgv : A.tmps.getD 62 undef = .bool false := by rw [<- hA]; exact (zat u 4 62 _ _ (by decide) (by decide) (by kernel_rfl)).trans hJ4
      have hgs : 62 < A.tmps.size := by rw [<- hA]; exact zaq u (by kernel_rfl)
      refine zci rfl 4 62 false rfl rfl hgs hgv (fun K hK => ?_)
      subst hA; simp only [puts, List.foldl]; go_simp; exact zK hK hg
     case ks7 =>
      intro u wx hg hC
      have hJ4 : u 4 = (.bool false) := hC.at 4 (by kernel_rfl)
      have hJ6 : u 6 = (.pointer (some ⟨s, 0, none⟩)) := hC.at 6 (by kernel_rfl)
      clear hC; generalize hA : puts [(0, 58), (1, 59), (2, 60), (3, 61), (4, 62), (5, 63), (6, 64), (7, 65), (8, 66), (9, 67), (10, 68), (11, 69), (12, 70), (13, 71), (14, 72), (15, 73)] _ u = A
      have hgv : A.tmps.getD 62 undef = .bool false := by rw [<- hA]; exact (zat u 4 62 _ _ (by decide) (by decide) (by kernel_rfl)).trans hJ4
      have hgs : 62 < A.tmps.size := by rw [<- hA]; exact zaq u (by kernel_rfl)
      refine zci rfl 4 62 false rfl rfl hgs hgv (fun K hK => ?_)
      subst hA; simp only [puts, List.foldl]; go_simp; exact zK hK hg
     case ks8 =>
      intro u wx hg hC
      have hJ4 : u 4 = (.bool false) := hC.at 4 (by kernel_rfl)
      have hJ7 : u 7 = (.pointer (some ⟨s, 0, none⟩)) := hC.at 7 (by kernel_rfl)
      clear hC; generalize hA : puts [(0, 58), (1, 59), (2, 60), (3, 61), (4, 62), (5, 63), (6, 64), (7, 65), (8, 66), (9, 67), (10, 68), (11, 69), (12, 70), (13, 71), (14, 72), (15, 73)] _ u = A
      have hgv : A.tmps.getD 62 undef = .bool false := by rw [<- hA]; exact (zat u 4 62 _ _ (by decide) (by decide) (by kernel_rfl)).trans hJ4
      have hgs : 62 < A.tmps.size := by rw [<- hA]; exact zaq u (by kernel_rfl)
      refine zci rfl 4 62 false rfl rfl hgs hgv (fun K hK => ?_)
      subst hA; simp only [puts, List.foldl]; go_simp; exact zK hK hg
     case ks9 =>
      intro u wx hg hC
      have hJ4 : u 4 = (.bool false) := hC.at 4 (by kernel_rfl)
      have hJ8 : u 8 = (.pointer (some ⟨s, 4, none⟩)) := hC.at 8 (by kernel_rfl)
      clear hC
      have hcl : wx.cell? ⟨s, 4, none⟩ = some (.int .i64 (lost : Int)) := (hg.cell (p := ⟨s, 4, none⟩) HLT.out).trans C4.out
      generalize hA : puts [(0, 58), (1, 59), (2, 60), (3, 61), (4, 62), (5, 63), (6, 64), (7, 65), (8, 66), (9, 67), (10, 68), (11, 69), (12, 70), (13, 71), (14, 72), (15, 73)] _ u = A
      have hgv : A.tmps.getD 62 undef = .bool false := by rw [<- hA]; exact (zat u 4 62 _ _ (by decide) (by decide) (by kernel_rfl)).trans hJ4
      have hgs : 62 < A.tmps.size := by rw [<- hA]; exact zaq u (by kernel_rfl)
      refine zci rfl 4 62 false rfl rfl hgs hgv (fun K hK => ?_)
      subst hA; simp only [puts, List.foldl]; go_simp; exact zK hK hg
     case ks11 =>
      intro u wx hg hC
      have hJ4 : u 4 = (.bool false) := hC.at 4 (by kernel_rfl)
      clear hC; generalize hA : puts [(0, 58), (1, 59), (2, 60), (3, 61), (4, 62), (5, 63), (6, 64), (7, 65), (8, 66), (9, 67), (10, 68), (11, 69), (12, 70), (13, 71), (14, 72), (15, 73)] _ u = A
      have hgv : A.tmps.getD 62 undef = .bool false := by rw [<- hA]; exact (zat u 4 62 _ _ (by decide) (by decide) (by kernel_rfl)).trans hJ4
      have hgs : 62 < A.tmps.size := by rw [<- hA]; exact zaq u (by kernel_rfl)
      refine zci rfl 4 62 false rfl rfl hgs hgv (fun K hK => ?_)
      subst hA; simp only [puts, List.foldl]; go_simp; exact hK _ _ ⟨rfl, IP8.out.step hg, hg, zb⟩
     case ks12 =>
      intro u wx hg hC
      have hJ4 : u 4 = (.bool false) := hC.at 4 (by kernel_rfl)
      have hJ10 : u 10 = (.pointer (some ⟨s, 0, none⟩)) := hC.at 10 (by kernel_rfl)
      have hJ11 : (IRd PL) (u 11) wx := hC.at 11 (by kernel_rfl)
      clear hC; generalize hA : puts [(0, 58), (1, 59), (2, 60), (3, 61), (4, 62), (5, 63), (6, 64), (7, 65), (8, 66), (9, 67), (10, 68), (11, 69), (12, 70), (13, 71), (14, 72), (15, 73)] _ u = A
      have hgv : A.tmps.getD 62 undef = .bool false := by rw [<- hA]; exact (zat u 4 62 _ _ (by decide) (by decide) (by kernel_rfl)).trans hJ4
      have hgs : 62 < A.tmps.size := by rw [<- hA]; exact zaq u (by kernel_rfl)
      refine zci rfl 4 62 false rfl rfl hgs hgv (fun K hK => ?_)
      subst hA; simp only [puts, List.foldl]; go_simp
      refine (HOT.out wx hg _ hJ11).mono ?_
      rintro e w' ⟨rfl, hb'⟩
      exact hK _ _ ⟨rfl, rfl, hg.next hb', hb'⟩
     case ks13 =>
      intro u wx hg hC
      have hJ4 : u 4 = (.bool false) := hC.at 4 (by kernel_rfl)
      have hJ5 : u 5 = (.pointer (some ⟨c, 0, none⟩)) := hC.at 5 (by kernel_rfl)
      have hJ9 : u 9 = (.int .i64 (lost : Int)) := hC.at 9 (by kernel_rfl)
      have hJ12 : u 12 = (.int .i64 (oth : Int)) := hC.at 12 (by kernel_rfl)
      clear hC; generalize hA : puts [(0, 58), (1, 59), (2, 60), (3, 61), (4, 62), (5, 63), (6, 64), (7, 65), (8, 66), (9, 67), (10, 68), (11, 69), (12, 70), (13, 71), (14, 72), (15, 73)] _ u = A
      have hgv : A.tmps.getD 62 undef = .bool false := by rw [<- hA]; exact (zat u 4 62 _ _ (by decide) (by decide) (by kernel_rfl)).trans hJ4
      have hgs : 62 < A.tmps.size := by rw [<- hA]; exact zaq u (by kernel_rfl)
      refine zci rfl 4 62 false rfl rfl hgs hgv (fun K hK => ?_)
      subst hA; simp only [puts, List.foldl]; go_simp
      refine (HWIN.out wx hg).mono ?_
      rintro e w' ⟨rfl, hb'⟩
      exact hK _ _ ⟨rfl, rfl, hg.next hb', hb'⟩
     case ks14 =>
      intro u wx hg hC
      have hJ4 : u 4 = (.bool false) := hC.at 4 (by kernel_rfl)
      have hJ13 : u 13 = (.bool wi) := hC.at 13 (by kernel_rfl)
      clear hC; generalize hA : puts [(0, 58), (1, 59), (2, 60), (3, 61), (4, 62), (5, 63), (6, 64), (7, 65), (8, 66), (9, 67), (10, 68), (11, 69), (12, 70), (13, 71), (14, 72), (15, 73)] _ u = A
      have hgv : A.tmps.getD 62 undef = .bool false := by rw [<- hA]; exact (zat u 4 62 _ _ (by decide) (by decide) (by kernel_rfl)).trans hJ4
      have hgs : 62 < A.tmps.size := by rw [<- hA]; exact zaq u (by kernel_rfl)
      refine zci rfl 4 62 false rfl rfl hgs hgv (fun K hK => ?_)
      subst hA; simp only [puts, List.foldl]; go_simp; exact zK hK hg
     case ks15 =>
      intro u wx hg hC
      have hJ4 : u 4 = (.bool false) := hC.at 4 (by kernel_rfl)
      have hJ14 : u 14 = (.bool (!wi)) := hC.at 14 (by kernel_rfl)
      clear hC; refine wpOp_step rfl (fun K hK => ?_)
      simp only [puts, List.foldl]; go_simp; exact zK hK hg
    case fink =>
     intro u w9 hb9 hφ
     have e73 : u 15 = .bool (!wi) := hφ (15, 73) (by decide)
     clear hφ; simp only [puts, List.foldl]; go_simp; have B9 := zh (B8.out.next hb9); have LM9 := zh (LM8.out.step hb9); have IP9 := zh (IP8.out.step hb9); clear hb9
     cases wi with
     | true =>
      have e73' : u 15 = .bool false := e73
      have HO := zh (HOK.out rfl rfl); clear e73 HOK; go_wp2; go_ret3; exact ⟨by rw [HO.out]; exact ⟨gM, cm, ov, rfl, HCM.out, HGN.out, LM9.out, IP9.out⟩, B9.out⟩
     | false =>
      have e73' : u 15 = .bool true := e73
      have HO := zh (HBAD.out (Or.inr rfl)); clear e73 HBAD; go_wp2; go_ret3; exact ⟨by rw [HO.out]; rfl, B9.out⟩
   | false =>
    refine zak [(0, 58), (1, 59), (2, 60), (3, 61), (4, 62), (5, 63), (6, 64), (7, 65), (8, 66), (9, 67), (10, 68), (11, 69), (12, 70), (13, 71), (14, 72), (15, 73)]
     (fun ii => [Is (.pointer (some ⟨c, 0, none⟩)), Is (.slice (some ⟨gM, 0, none⟩) n cm), Is (.bool false), Is (.bool true), Is (.bool true), Is undef, Is undef, Is undef, Is undef, Is undef, Is undef, Is undef, Is undef, Is undef, Is undef, Is (.bool true)].getD ii (Is undef))
     (fun w' => Below w8.heap.size w8 w') (by kernel_rfl) (by kernel_rfl) (by decide) (by decide) (by kernel_rfl) rfl ?monoj ((zb).drew) ?stepj ?finj
    case monoj =>
     intro i
     match i with
     | 0 | 1 | 2 | 3 | 4 | 5 | 6 | 7 | 8 | 9 | 10 | 11 | 12 | 13 | 14 | 15 => exact Is.monot _
     | _ + 16 => exact Is.monot _
    case stepj =>
     refine zf ⟨?js0, zf ⟨?js1, zf ⟨?js2, zf ⟨?js3, zf ⟨?js4, zf ⟨?js5, zf ⟨?js6, zf ⟨?js7, zf ⟨?js8, zf ⟨?js9, zf ⟨?js10, zf ⟨?js11, zf ⟨?js12, zf ⟨?js13, zf ⟨?js14, zf ⟨?js15, List.forall_mem_nil _⟩⟩⟩⟩⟩⟩⟩⟩⟩⟩⟩⟩⟩⟩⟩⟩
     case js0 | js1 =>
      intro u wx hg hC; clear hC; refine wpOp_step rfl (fun K hK => ?_)
      simp only [puts, List.foldl]; go_simp; exact zK hK hg
     case js2 =>
      intro u wx hg hC
      have hJ0 : u 0 = (.pointer (some ⟨c, 0, none⟩)) := hC.at 0 (by kernel_rfl)
      have hJ1 : u 1 = (.slice (some ⟨gM, 0, none⟩) n cm) := hC.at 1 (by kernel_rfl)
      clear hC; refine wpOp_step rfl (fun K hK => ?_)
      simp only [puts, List.foldl]; go_simp
      refine (HRIG.out wx hg).mono ?_
      rintro e w' ⟨rfl, hb'⟩
      exact hK _ _ ⟨rfl, rfl, hg.next hb', hb'⟩
     case js3 =>
      intro u wx hg hC
      have hJ2 : u 2 = (.bool false) := hC.at 2 (by kernel_rfl)
      clear hC; refine wpOp_step rfl (fun K hK => ?_)
      simp only [puts, List.foldl]; go_simp; exact zK hK hg
     case js4 =>
      intro u wx hg hC
      have hJ3 : u 3 = (.bool true) := hC.at 3 (by kernel_rfl)
      clear hC; refine wpOp_step rfl (fun K hK => ?_)
      simp only [puts, List.foldl]; go_simp; exact zK hK hg
     case js5 | js6 | js7 | js8 | js9 | js10 | js11 | js12 | js13 | js14 =>
      intro u wx hg hC
      have hJ4 : u 4 = .bool true := hC.at 4 (by kernel_rfl)
      clear hC; generalize hA : puts [(0, 58), (1, 59), (2, 60), (3, 61), (4, 62), (5, 63), (6, 64), (7, 65), (8, 66), (9, 67), (10, 68), (11, 69), (12, 70), (13, 71), (14, 72), (15, 73)] _ u = A
      have hgv : A.tmps.getD 62 undef = .bool true := by rw [<- hA]; exact (zat u 4 62 _ _ (by decide) (by decide) (by kernel_rfl)).trans hJ4
      have hgs : 62 < A.tmps.size := by rw [<- hA]; exact zaq u (by kernel_rfl)
      refine zbhd rfl 4 62 false rfl rfl hgs hgv ?_
      subst hA; simp only [puts, List.foldl]; go_simp
      first | exact ⟨rfl, hg, zb⟩ | exact ⟨rfl, hg⟩ | exact ⟨rfl, zb⟩ | exact ⟨rfl, rfl, hg, zb⟩ | exact ⟨hg, zb⟩
     case js15 =>
      intro u wx hg hC
      have hJ4 : u 4 = (.bool true) := hC.at 4 (by kernel_rfl)
      have hJ14 : u 14 = undef := hC.at 14 (by kernel_rfl)
      clear hC; refine wpOp_step rfl (fun K hK => ?_)
      simp only [puts, List.foldl]; go_simp; exact zK hK hg
    case finj =>
     intro u w9 hb9 hφ
     have e73 : u 15 = .bool true := hφ (15, 73) (by decide)
     clear hφ; simp only [puts, List.foldl]; go_simp; have B9 := zh (B8.out.next hb9); have HO := zh (HBAD.out (Or.inl rfl)); clear hb9 HBAD; go_wp2; go_ret3; exact ⟨by rw [HO.out]; rfl, B9.out⟩
end
end Go.Proofs.YtojimgbcghiblaaGreatDoor