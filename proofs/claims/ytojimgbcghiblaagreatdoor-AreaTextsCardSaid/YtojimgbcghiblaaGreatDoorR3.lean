import Derived.StillTailTactics
import Derived.BigRegion
import Derived.RegionTactic
import Derived.Laws.BitsAllLaws
import Derived.Test.YtojimgbcghiblaaGreatDoorR2
set_option linter.unusedVariables false
set_option maxRecDepth 100000
set_option maxHeartbeats 8000000
namespace SolMath
open GfMath PolyMath RsMath
theorem zbob {a : Nat} (ha : a < 256) (h0 : a ≠ 0) : iv a ≠ 0 := fun e => by
 have := zgi ha h0
 rw [e, zag] at this
 cases this
theorem zva {n l j : Nat} (hn : n <= 255) (hl : l < n) (hj : j < n) (h : gm (mrk n l) (iv (mrk n j)) = 1) : l = j := by
 have h1 : gm (mrk n j) (iv (mrk n j)) = 1 := zgi (zbe n j) (zgp n j)
 have h2 : mrk n l = mrk n j := by
  refine zbes (zba (mrk n j)) (zbe n l) (zbe n j) (zbob (zbe n j) (zgp n j)) ?_
  rw [zbi (zba _) (zbe n l), zbi (zba _) (zbe n j), h, h1]
 have := zbel (by omega) (by omega) h2
 omega
theorem zbnx {X x : Nat} (hX : X < 256) : ev [X, 1] x = gm X x ^^^ 1 := by
 show gm (gm 0 x ^^^ X) x ^^^ 1 = _
 rw [zac, Nat.zero_xor]
theorem zoh {a b : List Nat} {x : Nat} (ha : By a) (hb : By b) (hx : x < 256) : ev (pms [a, b]) x = gm (ev a x) (ev b x) := by
 rw [zqn, zsx (zly (zef (by omega)) ha.beh) hb.beh hx, zsx (zef (by omega)) ha.beh hx, zkp hx ha, zkp hx hb]
 rw [show ev [1] x = 1 by show gm 0 x ^^^ 1 = 1; rw [zac]; rfl, zch (zbh ha hx)]
theorem xor_eq_zero' {a b : Nat} : a ^^^ b = 0 ↔ a = b := by
 constructor
 .intro h
  have : a ^^^ b ^^^ b = 0 ^^^ b := by rw [h]
  rwa [Nat.xor_assoc, Nat.xor_self, Nat.xor_zero, Nat.zero_xor] at this
 .rintro rfl; exact Nat.xor_self _
def gcnt (G : List Bool) (i : Nat) : Nat := ((List.range i).filter fun j => gAt G j).length
theorem zrk (G : List Bool) (i : Nat) : gcnt G (i + 1) = gcnt G i + if gAt G i then 1 else 0 := by
 unfold gcnt
 rw [List.range_succ, List.filter_append, List.length_append, List.filter_cons, List.filter_nil]
 cases gAt G i <;> rfl
theorem zuo : ∀ (G : List Bool), gcnt G G.length = cnt G := by
 intro G
 have h : ∀ k, k <= G.length -> gcnt G k = (G.take k).count true := by
  intro k
  induction k with
  | zero => intro _; rfl
  | succ k ih =>
   intro hk
   have e : G.take (k + 1) = G.take k ++ [G[k]] := by
    rw [List.take_succ_eq_append_getElem (by omega)]
   rw [zrk, ih (by omega), e, List.count_append]
   have : gAt G k = G[k] := by unfold gAt; rw [List.getD_eq_getElem?_getD, List.getElem?_eq_getElem (by omega)]; rfl
   rw [this]
   cases G[k] <;> simp
 rw [h _ (Nat.le_refl _), List.take_length]
 rfl
theorem zud {n : Nat} {G : List Bool} (hn : n <= 255) : ∀ i, i <= n -> (erF n G i).length <= gcnt G i + 1 ∧ cf (erF n G i) 0 = 1 ∧ ∀ j, j < n -> (ev (erF n G i) (iv (mrk n j)) = 0 ↔ j < i ∧ gAt G j = true)
 | 0, _ => ⟨by simp [erF], rfl, fun j _ => by
   have : ev (erF n G 0) (iv (mrk n j)) = 1 := by show gm 0 _ ^^^ 1 = 1; rw [zac]; rfl
   rw [this]; exact ⟨(fun h => by cases h), fun h => absurd h.1 (by omega)⟩⟩
 | i + 1, hi => by
  obtain ⟨h1, h2, h3⟩ := zud (G := G) hn i (by omega)
  have h8 := (zfi n G i).1
  have hm8 : By [mrk n i, 1] := zdm (zbe n i) (by omega)
  rw [zrk]
  cases hg : gAt G i with
  | false =>
   have e : erF n G (i + 1) = erF n G i := by show (if gAt G i then _ else _) = _; rw [hg]; rfl
   rw [e]
   refine ⟨by simpa using h1, h2, fun j hj => (h3 j hj).trans ⟨fun h => ⟨by omega, h.2⟩, fun h => ⟨?_, h.2⟩⟩⟩
   have : j ≠ i := fun e => by rw [e, hg] at h; cases h.2
   omega
  | true =>
   have e : erF n G (i + 1) = pms [erF n G i, [mrk n i, 1]] := by show (if gAt G i then _ else _) = _; rw [hg]; rfl
   rw [e]
   refine ⟨?_, ?_, fun j hj => ?_⟩
   .have := zda (erF n G i) [mrk n i, 1]
    simp only [List.length_cons, List.length_nil] at this
    simp only [if_true]
    omega
   .rw [zfd h8 hm8]
    show 0 ^^^ gm (cf (erF n G i) 0) (cf [mrk n i, 1] (0 - 0)) = 1
    rw [h2, show cf [mrk n i, 1] (0 - 0) = 1 from rfl, Nat.zero_xor]
    exact zcj (by omega)
   .have hx := zba (mrk n j)
    rw [zoh h8 hm8 hx, zbnx (zbe n i)]
    constructor
    .intro h0
     rcases gm_eq_zero (zbh h8 hx) (zbt (zbb (zbe n i) hx) (by omega)) h0 with h4 | h4
     .have := (h3 j hj).1 h4
      exact ⟨by omega, this.2⟩
     .have := zva hn (by omega) hj (xor_eq_zero'.1 h4)
      subst this; exact ⟨by omega, hg⟩
    .rintro ⟨h4, h5⟩
     by_cases e2 : j = i
     .subst e2
      rw [zgi (zbe n j) (zgp n j), Nat.xor_self, zag]
     .rw [(h3 j hj).2 ⟨by omega, h5⟩, zac]
def qf (A : List Nat) (X : Nat) : Nat -> Nat
 | 0 => cf A 0
 | k + 1 => gm X (qf A X k) ^^^ cf A (k + 1)
theorem zfp {A : List Nat} (hA : By A) {X : Nat} (hX : X < 256) : ∀ k, qf A X k < 256
 | 0 => hA.cf 0
 | k + 1 => zbt (zbb hX (zfp hA hX k)) (hA.cf _)
theorem zvv {A : List Nat} (hA : By A) {X : Nat} (hX : X < 256) : ∀ k, xs (fun l => gm (cf A l) (pw X (k - l))) (k + 1) = qf A X k
 | 0 => by
  show 0 ^^^ gm (cf A 0) (pw X (0 - 0)) = cf A 0
  rw [Nat.zero_xor]
  exact zcj (hA.cf 0)
 | k + 1 => by
  have e : xs (fun l => gm (cf A l) (pw X (k + 1 - l))) (k + 1 + 1) = xs (fun l => gm (cf A l) (pw X (k + 1 - l))) (k + 1) ^^^ gm (cf A (k + 1)) (pw X (k + 1 - (k + 1))) := rfl
  rw [e, Nat.sub_self, znk, zcj (hA.cf _), qf, <- zvv hA hX k, zds]
  congr 1
  refine zao _ fun l hl => ?_
  rw [show k + 1 - l = (k - l) + 1 by omega, <- zlz hX, <- zah (hA.cf l) hX (zar hX _), zbi (hA.cf l) hX, zah hX (hA.cf l) (zar hX _)]
theorem zvu {A : List Nat} (hA : By A) {X : Nat} (hX : X < 256) (h0 : X ≠ 0) (hr : ev A (iv X) = 0) (k : Nat) (hk : A.length <= k + 1) : qf A X k = 0 := by
 rw [<- zvv hA hX k, zdo (fun l => gm (cf A l) (pw X (k - l))) hk fun l h _ => by rw [zav _ _ h, zac], zzk hX h0 hA k hk, hr, zag]
def Qe (A : List Nat) (X x N : Nat) : Nat := xs (fun k => gm (qf A X k) (pw x k)) N
theorem zbku {A : List Nat} (hA : By A) {X x : Nat} (hX : X < 256) (hx : x < 256) (N : Nat) : Qe A X x N < 256 := ztc _ fun k _ => zbb (zfp hA hX k) (zar hx k)
theorem zbkp (a c d e : Nat) : a ^^^ (c ^^^ d) ^^^ (c ^^^ e) = a ^^^ d ^^^ e := by
 apply Nat.eq_of_testBit_eq
 intro i
 simp only [Nat.testBit_xor]
 cases a.testBit i <;> cases c.testBit i <;> cases d.testBit i <;> cases e.testBit i <;> rfl
theorem zyv {A : List Nat} (hA : By A) {X x : Nat} (hX : X < 256) (hx : x < 256) : ∀ N, gm (1 ^^^ gm X x) (Qe A X x N) = E (cf A) N x ^^^ gm (qf A X N ^^^ cf A N) (pw x N)
 | 0 => by
  show gm _ 0 = 0 ^^^ gm (cf A 0 ^^^ cf A 0) _
  rw [zag, Nat.xor_self, zac]
  rfl
 | N + 1 => by
  have hq := zfp hA hX N
  have hp := zar hx N
  have e1 : Qe A X x (N + 1) = Qe A X x N ^^^ gm (qf A X N) (pw x N) := rfl
  have e2 : E (cf A) (N + 1) x = E (cf A) N x ^^^ gm (cf A N) (pw x N) := rfl
  have e3 : gm (gm X x) (gm (qf A X N) (pw x N)) = gm (qf A X (N + 1) ^^^ cf A (N + 1)) (pw x (N + 1)) := by
   rw [qf, Nat.xor_assoc, Nat.xor_self, Nat.xor_zero, <- zlz hx, zah hX hx (zbb hq hp), <- zah hx hq hp, zbi hx hq, zah hq hx hp, <- zah hX hq (zbb hx hp)]
  rw [e1, zbg, zyv hA hX hx N, zau (c := gm (qf A X N) (pw x N)), zch (zbb hq hp), e3, e2, zau (a := qf A X N)]
  exact zbkp _ _ _ _
theorem zbos {A : List Nat} (hA : By A) {X x : Nat} (hX : X < 256) (h0 : X ≠ 0) (hx : x < 256) (hr : ev A (iv X) = 0) {N : Nat} (hN : A.length <= N + 1) : gm (1 ^^^ gm X x) (Qe A X x N) = ev A x := by
 rw [zyv hA hX hx N, zvu hA hX h0 hr N hN, Nat.zero_xor, zdp hx hA hN]
 rfl
theorem zub {A : List Nat} (hA : By A) {X : Nat} (hX : X < 256) (h0 : X ≠ 0) : ∀ M, xs (fun k => gm (if k % 2 = 0 then cf A (k + 1) else 0) (pw (iv X) k)) (2 * M) = gm X (Qe A X (iv X) (2 * M))
 | 0 => by show 0 = gm X 0; rw [zag]
 | M + 1 => by
  have hx := zba X
  have q0 := zfp hA hX (2 * M)
  have p0 := zar hx (2 * M)
  have e1 : ∀ f : Nat -> Nat, xs f (2 * (M + 1)) = xs f (2 * M) ^^^ f (2 * M) ^^^ f (2 * M + 1) := fun f => rfl
  have hp : pw (iv X) (2 * M) = gm X (pw (iv X) (2 * M + 1)) := by
   rw [<- zlz hx, <- zah hX hx p0, zgi hX h0, zch p0]
  have hc : cf A (2 * M + 1) = gm X (qf A X (2 * M)) ^^^ qf A X (2 * M + 1) := by
   rw [qf, <- Nat.xor_assoc, Nat.xor_self, Nat.zero_xor]
  unfold Qe
  rw [e1, e1, zub hA hX h0 M, if_pos (by omega), if_neg (by omega), zac, Nat.xor_zero, zbg, zbg]
  unfold Qe
  rw [Nat.xor_assoc]
  congr 1
  rw [hc, zau, zah hX q0 p0]
  congr 1
  rw [hp, <- zah (zfp hA hX _) hX (zar hx _), zbi (zfp hA hX _) hX, zah hX (zfp hA hX _) (zar hx _)]
theorem zsd {f : Nat -> Nat} {i : Nat} : ∀ n, i < n -> (∀ j, j < n -> j ≠ i -> f j = 0) -> xs f n = f i
 | 0, h, _ => absurd h (by omega)
 | n + 1, h, hz => by
  have e : xs f (n + 1) = xs f n ^^^ f n := rfl
  rw [e]
  by_cases hi : i = n
  .subst hi
   rw [zcp _ fun j hj => hz j (by omega) (by omega), Nat.zero_xor]
  .rw [zsd n (by omega) fun j hj hne => hz j (by omega) hne, hz n (by omega) (fun e => hi e.symm), Nat.xor_zero]
end SolMath
namespace SolMath
open GfMath PolyMath RsMath
theorem zjx {α : Type} (P Q : α -> Bool) : ∀ l : List α, (l.filter fun x => P x || Q x).length = (l.filter P).length + (l.filter fun x => !P x && Q x).length
 | [] => rfl
 | a :: l => by
  have ih := zjx P Q l
  rw [List.filter_cons, List.filter_cons, List.filter_cons]
  cases P a <;> cases Q a <;> simp [ih] <;> omega
section
variable {n p : Nat} {W D : List Nat} {G : List Bool}
def oth (W D : List Nat) (G : List Bool) (j : Nat) : Nat := if gAt G j then 0 else er W D j
def Sl (W D : List Nat) (G : List Bool) (n : Nat) : List Nat := (List.range n).filter fun j => gAt G j || decide (er W D j ≠ 0)
theorem zfu (j : Nat) : j ∈ Sl W D G n ↔ j < n ∧ (gAt G j = true ∨ er W D j ≠ 0) := by simp [Sl]
theorem zbnn (hG : G.length = n) : (Sl W D G n).length = cnt G + ocnt (oth W D G) n := by
 unfold Sl ocnt
 rw [zjx, <- zuo G, hG, gcnt]
 congr 1
 congr 1
 apply List.filter_congr
 intro j _
 unfold oth
 cases gAt G j <;> simp
theorem zrp {α β : Type} {f : α -> β} : ∀ {l : List α}, l.Nodup -> (∀ x ∈ l, ∀ y ∈ l, f x = f y -> x = y) -> (l.map f).Nodup
 | [], _, _ => List.nodup_nil
 | a :: l, h, hi => by
  rw [List.nodup_cons] at h
  rw [List.map_cons, List.nodup_cons]
  refine ⟨fun hm => ?_, zrp h.2 fun x hx y hy => hi x (List.mem_cons_of_mem _ hx) y (List.mem_cons_of_mem _ hy)⟩
  obtain ⟨b, hb, e⟩ := List.mem_map.1 hm
  have := hi b (List.mem_cons_of_mem _ hb) a (List.mem_cons_self ..) e
  exact h.1 (this ▸ hb)
theorem zbfb {i j : Nat} (hn : n <= 255) (hi : i < n) (hj : j < n) (h : iv (mrk n i) = iv (mrk n j)) : i = j :=
 zva hn hi hj (by rw [<- h]; exact zgi (zbe n i) (zgp n i))
theorem ztd (hn : n <= 255) : ((Sl W D G n).map fun j => iv (mrk n j)).Nodup :=
 zrp (List.Pairwise.filter _ List.nodup_range) fun x hx y hy e => zbfb hn ((zfu x).1 hx).1 ((zfu y).1 hy).1 e
theorem zbkv (l : List Nat) : By (l.map fun j => iv (mrk n j)) := by
 intro x hx
 obtain ⟨j, _, rfl⟩ := List.mem_map.1 hx
 exact zba _
theorem forney (h : Dec n p W D) (hp : 1 <= p) (hG : G.length = n) {A : List Nat} (hA : By A) (hAl : A.length <= (Sl W D G n).length + 1) (hA0 : cf A 0 = 1) (hS : (Sl W D G n).length <= p) (hr : ∀ j, j ∈ Sl W D G n -> ev A (iv (mrk n j)) = 0) :
  ∀ i, i < n -> dAt n A (beh (dl A)) (lowl p (pms [valsR W p, A])) i = er W D i := by
 have hV8 : By (valsR W p) := fun x hx => zbv _ (fun i _ => zbh h.W8 (ex_lt i)) x (List.mem_reverse.1 hx)
 have hm := fun j => zbe n j
 have hm0 := fun j => zgp n j
 have hx := fun j => zba (mrk n j)
 intro i hi
 unfold dAt
 by_cases hiS : i ∈ Sl W D G n
 .rw [if_neg (by rw [hr i hiS]; simp)]
  have hSl1 : 1 <= (Sl W D G n).length := List.length_pos_of_mem hiS
  have hlp : A.length <= p + 1 := by omega
  have hQo : ∀ j, j ∈ Sl W D G n -> ∀ l, l ∈ Sl W D G n -> l ≠ j -> Qe A (mrk n j) (iv (mrk n l)) p = 0 := fun j hj l hl hne => by
   have h1 := zbos hA (hm j) (hm0 j) (hx l) (hr j hj) hlp; rw [hr l hl] at h1
   rcases gm_eq_zero (zbt (by omega) (zbb (hm j) (hx l))) (zbku hA (hm j) (hx l) p) h1 with h2 | h2
   .have := zva h.n255 ((zfu j).1 hj).1 ((zfu l).1 hl).1 (xor_eq_zero'.1 h2).symm
    exact absurd this.symm hne
   .exact h2
  have hQn : Qe A (mrk n i) (iv (mrk n i)) p ≠ 0 := fun h0 => by
   obtain ⟨m, hme⟩ : ∃ m, (Sl W D G n).length = m := ⟨_, rfl⟩
   have hz := zjm m (PolyMath.hi m (qf A (mrk n i))) ((Sl W D G n).map fun j => iv (mrk n j)) (zbv _ fun k _ => zfp hA (hm i) _) (zbkv _) (by rw [zcz]; exact Nat.le_refl _) (by rw [List.length_map, hme]) (ztd h.n255) fun x hxm => by
    obtain ⟨l, hl, rfl⟩ := List.mem_map.1 hxm
    have hq8 : By (PolyMath.hi m (qf A (mrk n i))) := zbv _ fun k _ => zfp hA (hm i) _
    rw [ev_E (hx l) hq8, zcz]
    have e1 : E (cf (PolyMath.hi m (qf A (mrk n i)))) m (iv (mrk n l)) = Qe A (mrk n i) (iv (mrk n l)) m := zao _ fun k hk => by rw [zbap, if_pos hk]
    have e2 : Qe A (mrk n i) (iv (mrk n l)) p = Qe A (mrk n i) (iv (mrk n l)) m := zdo _ (by omega) fun k hk _ => by rw [zvu hA (hm i) (hm0 i) (hr i hiS) k (by omega), zac]
    rw [e1, <- e2]
    by_cases e : l = i
    .rw [e]; exact h0
    .exact hQo i hiS l hl e
   have h1 : cf (PolyMath.hi m (qf A (mrk n i))) 0 = qf A (mrk n i) 0 := by rw [zbap, if_pos (by omega)]
   have h2 : cf (PolyMath.hi m (qf A (mrk n i))) 0 = 0 := by
    rw [zcg _ _ (by rw [zcz]; omega), zas _ _ (by rw [zcz]; omega)]
    exact hz _ (List.getElem_mem _)
   rw [h2] at h1
   have h3 : qf A (mrk n i) 0 = 1 := hA0
   rw [h3] at h1
   cases h1
  have hL8 : By (lowl p (pms [valsR W p, A])) := zeb (zbo hV8 hA) p
  have hev : ev (lowl p (pms [valsR W p, A])) (iv (mrk n i)) = gm (er W D i) (Qe A (mrk n i) (iv (mrk n i)) p) := by
   rw [zdp (hx i) hL8 (N := p) (zuv _ _)]
   unfold E
   rw [zao p (g := fun k => xs (fun j => gm (er W D j) (gm (qf A (mrk n j) k) (pw (iv (mrk n i)) k))) n) fun k hk => by
    rw [zzd, if_pos hk, zfd hV8 hA, zpz (fun k => hV8.cf k) (fun k => hA.cf k)]
    unfold cv
    rw [zao (k + 1) (g := fun l => xs (fun j => gm (er W D j) (gm (cf A l) (pw (mrk n j) (k - l)))) n) fun l hl => by
     rw [ztu (show k - l < p by omega), zbag h (show k - l < p by omega), zds]
     refine zao _ fun j _ => ?_
     rw [<- zah (hA.cf l) (zfm h j) (zar (hm j) _), zbi (hA.cf l) (zfm h j), zah (zfm h j) (hA.cf l) (zar (hm j) _)], zis]
    rw [zii]
    refine zao _ fun j _ => ?_
    rw [<- zds, zvv hA (hm j) k, zah (zfm h j) (zfp hA (hm j) k) (zar (hx i) k)], zis]
   rw [zao n (g := fun j => gm (er W D j) (Qe A (mrk n j) (iv (mrk n i)) p)) fun j _ => by rw [<- zds]; rfl]
   refine zsd n hi fun j hj hne => ?_
   by_cases he : er W D j = 0
   .rw [he, zac]
   .rw [hQo j ((zfu j).2 ⟨hj, Or.inr he⟩) i hiS (fun e => hne e.symm), zag]
  have hdv : ev (beh (dl A)) (iv (mrk n i)) = gm (mrk n i) (Qe A (mrk n i) (iv (mrk n i)) p) := by
   rw [zkp (hx i) (zsw hA)]; have e1 := zsv (N := 2 * p) hA (hx i) (by omega)
   unfold dev at e1
   rw [e1, zub hA (hm i) (hm0 i) p]
   congr 1
   exact zdo _ (by omega) fun k hk _ => by rw [zvu hA (hm i) (hm0 i) (hr i hiS) k (by omega), zac]
  rw [hev, hdv]
  have hq := zbku hA (hm i) (hx i) p
  have he := zfm h i
  obtain ⟨X, hX⟩ : ∃ X, mrk n i = X := ⟨_, rfl⟩
  obtain ⟨Q, hQ⟩ : ∃ Q, Qe A (mrk n i) (iv (mrk n i)) p = Q := ⟨_, rfl⟩
  have hX8 := hm i
  have hX0 := hm0 i
  rw [hQ] at hq hQn ⊢
  rw [hX] at hX8 hX0 ⊢
  have hXQ := zbb hX8 hq
  have hXQ0 := ziz hX8 hq hX0 hQn
  rw [<- zah hX8 (zbb he hq) (zba _), <- zah hX8 he hq, zbi hX8 he, zah he hX8 hq, zah he hXQ (zba _), zgi hXQ hXQ0, zcj he]
 .have h0 : er W D i = 0 := Classical.byContradiction fun he => hiS ((zfu i).2 ⟨hi, Or.inr he⟩)
  rw [h0]
  refine if_pos fun hz => ?_
  have hnz := zjm ((Sl W D G n).length + 1) A (iv (mrk n i) :: (Sl W D G n).map fun j => iv (mrk n j)) hA (by
   intro x hxm
   rcases List.mem_cons.1 hxm with rfl | hxm
   .exact hx i
   .exact zbkv _ x hxm) hAl (by simp) (by
   rw [List.nodup_cons]
   refine ⟨fun hmm => ?_, ztd h.n255⟩
   obtain ⟨j, hj, e⟩ := List.mem_map.1 hmm
   have := zbfb h.n255 ((zfu j).1 hj).1 hi e
   exact hiS (this ▸ hj)) fun x hxm => by
   rcases List.mem_cons.1 hxm with rfl | hxm
   .exact hz
   .obtain ⟨j, hj, rfl⟩ := List.mem_map.1 hxm
    exact hr j hj
  have hl := zbdi hA0
  rw [zcg _ _ (by omega), zas _ _ (by omega)] at hA0
  rw [hnz _ (List.getElem_mem _)] at hA0
  cases hA0
theorem decode (h : Dec n p W D) (hp : 1 <= p) {el : List Int} (hb : inB n el = true) (hq : cnt (markE n el) + 2 * ocnt (oth W D (markE n el)) n <= p) :
  mendF masseyF n p W el = .ok D (atF (er W D) n) := by
 rw [zuy, if_neg (by rw [hb]; simp)]
 have hG : (markE n el).length = n := by unfold markE; rw [zmv]; exact List.length_replicate
 obtain ⟨G, hGe⟩ : ∃ G, markE n el = G := ⟨_, rfl⟩
 rw [hGe] at hq hG ⊢
 obtain ⟨hEl, hE0, hEr⟩ := zud (n := n) (G := G) h.n255 n (Nat.le_refl _)
 have hE8 := (zfi n G n).1
 rw [show gcnt G n = cnt G by rw [<- zuo G, hG]] at hEl
 have hV8 : By (valsR W p) := fun x hx => zbv _ (fun i _ => zbh h.W8 (ex_lt i)) x (List.mem_reverse.1 hx)
 have hcc : ∀ j, j < n -> (cc W D (erF n G n) n (cnt G) j ≠ 0 -> oth W D G j ≠ 0) ∧ (oth W D G j ≠ 0 -> cc W D (erF n G n) n (cnt G) j ≠ 0) := fun j hj => by
  unfold cc oth
  constructor
  .intro h1 h2
   cases hg : gAt G j with
   | true => exact h1 (by rw [(hEr j hj).2 ⟨hj, hg⟩, zag])
   | false => rw [hg] at h2; simp only [Bool.false_eq_true, if_false] at h2; exact h1 (by rw [h2, zac, zac])
  .intro h1
   cases hg : gAt G j with
   | true => rw [hg] at h1; simp at h1
   | false =>
    rw [hg] at h1
    simp only [Bool.false_eq_true, if_false] at h1
    refine ziz (zbb (zfm h j) (zar (zbe n j) _)) (zbh hE8 (zba _)) (ziz (zfm h j) (zar (zbe n j) _) h1 (by rw [mrk, zjl]; exact zoi _)) fun h2 => ?_
    have := ((hEr j hj).1 h2).2
    rw [hg] at this
    cases this
 have hoc : ocnt (cc W D (erF n G n) n (cnt G)) n <= ocnt (oth W D G) n := zqj fun j hj => (hcc j hj).1
 obtain ⟨hCl, hC0, hCr⟩ := zux h hE8 hEl hoc hq
 have hC8 : By (masseyF p (toldF p (valsR W p) (erF n G n)) (cnt G)) := (zlr (zeb (zbo hV8 hE8) p) _ _).r8
 obtain ⟨C, hC⟩ : ∃ C, masseyF p (toldF p (valsR W p) (erF n G n)) (cnt G) = C := ⟨_, rfl⟩
 obtain ⟨E, hE⟩ : ∃ E, erF n G n = E := ⟨_, rfl⟩
 rw [hC] at hCl hC0 hCr hC8
 rw [hE] at hE8 hEl hE0 hEr hcc hCr hC
 have hSn := zbnn (W := W) (D := D) hG
 have hA8 : By (pms [C, E]) := zbo hC8 hE8
 have hAl := zda C E
 have hA0 : cf (pms [C, E]) 0 = 1 := by
  rw [zfd hC8 hE8]
  show 0 ^^^ gm (cf C 0) (cf E (0 - 0)) = 1
  rw [hC0, Nat.sub_self, hE0, Nat.zero_xor]
  exact zcj (by omega)
 have hAr : ∀ j, j ∈ Sl W D G n -> ev (pms [C, E]) (iv (mrk n j)) = 0 := fun j hj => by
  obtain ⟨h1, h2⟩ := (zfu j).1 hj
  rw [zoh hC8 hE8 (zba _)]
  cases hg : gAt G j with
  | true => rw [(hEr j h1).2 ⟨h1, hg⟩, zag]
  | false =>
   rcases h2 with h2 | h2
   .rw [hg] at h2; cases h2
   .rw [hCr j h1 ((hcc j h1).2 (by unfold oth; rw [hg]; simpa using h2)), zac]
 have hF := forney h hp hG hA8 (by omega) hA0 (by omega) hAr
 have hd : ∀ i, i < n -> dF n p (valsR W p) C E i = er W D i := hF
 have hW : layW n p W (valsR W p) C E = D := by
  refine zfj (by unfold layW wordF; rw [zad, h.Wl, h.Dl]) fun i hi => ?_
  unfold layW wordF at hi ⊢
  rw [zad, h.Wl] at hi
  rw [zbm, if_pos (by rw [h.Wl]; exact hi), if_pos hi, hd i hi, er, <- Nat.xor_assoc, Nat.xor_self, Nat.zero_xor]
 have hP : layP n p (valsR W p) C E = atF (er W D) n := by
  unfold layP atF
  apply List.filter_congr
  intro j hj
  rw [hd j (List.mem_range.1 hj)]
 have hO : othF G (atF (er W D) n) = ocnt (oth W D G) n := by
  unfold othF atF ocnt
  rw [List.filter_filter]
  congr 1
  apply List.filter_congr
  intro j _
  unfold oth
  cases gAt G j <;> simp
 unfold mendG
 simp only
 rw [hE, hC, hW, hP, hO]
 refine if_pos ⟨?_, by omega, by omega⟩
 rw [allz_zero]
 exact h.D0
end
end SolMath
namespace RsMath
open GfMath PolyMath
end RsMath
namespace Go.Proofs.YtojimgbcghiblaaGreatDoor
section
open Go.RowKit CrcMath GfMath PolyMath RsMath SolMath
abbrev Fb := Nat -> Nat -> UInt8
def bkF (f : Fb) (i : Nat) : List UInt8 := (List.range 60).map (f i)
theorem zay (f : Fb) (i : Nat) : (bkF f i).length = 60 := by simp [bkF]
theorem zgn (f : Fb) (i b : Nat) (h : b < 60) : (bkF f i)[b]? = some (f i b) := by simp [bkF, h]
theorem bkF_eq {f g : Fb} {i j : Nat} : bkF f i = bkF g j ↔ ∀ b, b < 60 -> f i b = g j b := by
 constructor
 .intro h b hb
  have := congrArg (fun l => l[b]?) h
  simp only [zgn _ _ _ hb, Option.some.injEq] at this
  exact this
 .intro h
  exact List.map_congr_left fun b hb => h b (List.mem_range.1 hb)
def grid (n : Nat) (f : Fb) : List UInt8 := (List.range (n * 60)).map fun k => f (k / 60) (k % 60)
theorem zan (n : Nat) (f : Fb) : (grid n f).length = n * 60 := by simp [grid]
theorem zct (n : Nat) (f : Fb) (k : Nat) (h : k < n * 60) : (grid n f)[k]? = some (f (k / 60) (k % 60)) := by simp [grid, h]
theorem zzo (n : Nat) (f : Fb) (i b : Nat) (hi : i < n) (hb : b < 60) : (grid n f)[i * 60 + b]? = some (f i b) := by
 have h1 : i * 60 + b < n * 60 := by omega
 rw [zct n f _ h1, show (i * 60 + b) / 60 = i by omega, show (i * 60 + b) % 60 = b by omega]
theorem zbw {n : Nat} {f g : Fb} (h : ∀ i, i < n -> ∀ b, b < 60 -> f i b = g i b) : grid n f = grid n g :=
 List.map_congr_left fun k hk => h _ (by have := List.mem_range.1 hk; omega) _ (by omega)
theorem zes (n m : Nat) (f : Fb) : grid (n + m) f = grid n f ++ grid m (fun i => f (n + i)) := by
 refine List.ext_getElem? fun k => ?_
 by_cases h : k < n * 60
 .rw [List.getElem?_append_left (by rw [zan]; exact h), zct _ _ _ h, zct _ _ _ (by omega)]
 .by_cases h2 : k < (n + m) * 60
  .rw [List.getElem?_append_right (by rw [zan]; omega), zan, zct _ _ _ h2, zct _ _ _ (by omega)]
   have e1 : k / 60 = n + (k - n * 60) / 60 := by omega
   have e2 : k % 60 = (k - n * 60) % 60 := by omega
   rw [<- e1, <- e2]
  .rw [List.getElem?_eq_none (by rw [zan]; omega), List.getElem?_eq_none (by rw [List.length_append, zan, zan]; omega)]
theorem zbin (f : Fb) : grid 1 f = bkF f 0 := by
 refine List.ext_getElem? fun k => ?_
 by_cases h : k < 60
 .rw [zct _ _ _ (by omega), zgn _ _ _ h, show k / 60 = 0 by omega, show k % 60 = k by omega]
 .rw [List.getElem?_eq_none (by rw [zan]; omega), List.getElem?_eq_none (by rw [zay]; omega)]
theorem zkv (n : Nat) (f : Fb) : grid (n + 1) f = grid n f ++ bkF f n := by
 rw [zes, zbin]
 congr 1
theorem zjb {n i : Nat} (f : Fb) (h : i < n) : grid n f = grid i f ++ bkF f i ++ grid (n - i - 1) (fun j => f (i + 1 + j)) := by
 rw [show n = (i + 1) + (n - i - 1) by omega, zes, zkv]
 congr 2
 omega
def ofL (L : List (List UInt8)) : Fb := fun i b => (L.getD i []).getD b 0
theorem zblk (L : List (List UInt8)) (h : ∀ x ∈ L, x.length = 60) (i : Nat) (hi : i < L.length) : bkF (ofL L) i = L[i] := by
 have hl := h _ (List.getElem_mem hi)
 refine List.ext_getElem? fun b => ?_
 by_cases hb : b < 60
 .have e : L.getD i [] = L[i] := by simp [List.getD_eq_getElem?_getD, hi]
  rw [zgn _ _ _ hb, ofL, e, List.getD_eq_getElem?_getD, List.getElem?_eq_getElem (by omega), Option.getD_some]
 .rw [List.getElem?_eq_none (by rw [zay]; omega), List.getElem?_eq_none (by omega)]
theorem zrl (L : List (List UInt8)) (h : ∀ x ∈ L, x.length = 60) : ∀ n, n <= L.length -> grid n (ofL L) = (L.take n).flatten
 | 0, _ => rfl
 | n + 1, hn => by rw [zkv, zrl L h n (by omega), zks L n (by omega), zblk L h n (by omega)]
theorem zbly (L : List (List UInt8)) (h : ∀ x ∈ L, x.length = 60) : L.flatten = grid L.length (ofL L) := by
 rw [zrl L h _ (Nat.le_refl _), List.take_length]
def setF (f : Fb) (i b : Nat) (v : UInt8) : Fb := fun j c => if j = i ∧ c = b then v else f j c
theorem zbio (n : Nat) (f : Fb) (i b : Nat) (v : UInt8) (hi : i < n) (hb : b < 60) : (grid n f).set (i * 60 + b) v = grid n (setF f i b v) := by
 refine List.ext_getElem? fun k => ?_
 rw [List.getElem?_set]
 by_cases h : k < n * 60
 .rw [zct _ _ _ h, zct _ _ _ h, setF]
  by_cases e : i * 60 + b = k
  .rw [if_pos e, if_pos (by rw [zan]; omega), if_pos (by constructor <;> omega)]
  .rw [if_neg e, if_neg (by intro hh; omega)]
 .rw [if_neg (by omega), List.getElem?_eq_none (by rw [zan]; omega), List.getElem?_eq_none (by rw [zan]; omega)]
def putF (f : Fb) (o b : Nat) (X : List Nat) (k : Nat) : Fb := fun j c => if c = b ∧ o <= j ∧ j < o + k then UInt8.ofNat (sq X (j - o)) else f j c
theorem zbgb (f : Fb) (o b : Nat) (X : List Nat) : putF f o b X 0 = f := by
 funext j c
 rw [putF, if_neg (by omega)]
theorem zbga (f : Fb) (o b : Nat) (X : List Nat) (k : Nat) : setF (putF f o b X k) (o + k) b (UInt8.ofNat (sq X k)) = putF f o b X (k + 1) := by
 funext j c
 unfold setF putF
 by_cases e : j = o + k ∧ c = b
 .rw [if_pos e, if_pos (by omega)]
  rw [show j - o = k by omega]
 .rw [if_neg e]
  by_cases h : c = b ∧ o <= j ∧ j < o + k
  .rw [if_pos h, if_pos (by omega)]
  .rw [if_neg h, if_neg (by omega)]
def colF (f : Fb) (n b : Nat) : List Nat := tab n fun i => (f i b).toNat
theorem zby (f : Fb) (n b : Nat) : (colF f n b).length = n := zad _ _
theorem zgo (f : Fb) (n b : Nat) : By (colF f n b) := zbv _ fun i _ => (f i b).toNat_lt
theorem zil (f : Fb) (n b i : Nat) (h : i < n) : sq (colF f n b) i = (f i b).toNat := by rw [colF, zbm, if_pos h]
theorem zms {x : Nat} (h : x < 256) : (UInt8.ofNat x).toNat = x := by
 rw [UInt8.toNat_ofNat']; exact Nat.mod_eq_of_lt h
theorem toNat_ofNat' (x : UInt8) : UInt8.ofNat x.toNat = x := by simp
def wholeT (f : Fb) (k p t : Nat) : Fb := fun j b => if j < k then f j b else if b < t then UInt8.ofNat (sq (parity (colF f k b) p) (j - k)) else 0
def wholeF (f : Fb) (k p : Nat) : Fb := wholeT f k p 60
theorem zem (f : Fb) (k p t j b : Nat) (h : j < k) : wholeT f k p t j b = f j b := if_pos h
theorem zyr (f : Fb) (k p t : Nat) (j b : Nat) (hj : j < k + p) : putF (wholeT f k p t) k t (parity (colF f k t) p) p j b = wholeT f k p (t + 1) j b := by
 unfold putF wholeT
 by_cases h1 : j < k
 .rw [if_neg (by omega), if_pos h1, if_pos h1]
 .rw [if_neg h1, if_neg h1]
  by_cases h2 : b = t
  .subst h2
   rw [if_pos (by omega), if_pos (by omega)]
  .rw [if_neg (by omega)]
   by_cases h3 : b < t
   .rw [if_pos h3, if_pos (by omega)]
   .rw [if_neg h3, if_neg (by omega)]
theorem zbet (f : Fb) (k p t : Nat) : grid (k + p) (putF (wholeT f k p t) k t (parity (colF f k t) p) p) = grid (k + p) (wholeT f k p (t + 1)) :=
 zbw fun i hi b _ => zyr f k p t i b hi
theorem zbbe (f : Fb) (k p : Nat) : grid k f ++ List.replicate (p * 60) 0 = grid (k + p) (wholeT f k p 0) := by
 rw [zes, zbw (g := wholeT f k p 0) (f := f) fun i hi b _ => (zem f k p 0 i b hi).symm]
 congr 1
 refine List.ext_getElem? fun q => ?_
 by_cases h : q < p * 60
 .rw [zct _ _ _ h, List.getElem?_replicate, if_pos h, wholeT, if_neg (by omega), if_neg (by omega)]
 .rw [List.getElem?_eq_none (by simp; omega), List.getElem?_eq_none (by rw [zan]; omega)]
theorem zbch (f : Fb) (k p j b : Nat) (h : ¬ j < k) (hb : b < 60) : wholeF f k p j b = UInt8.ofNat (sq (parity (colF f k b) p) (j - k)) := by
 rw [wholeF, wholeT, if_neg h, if_pos hb]
theorem zbdq (f : Fb) (k p b : Nat) (hb : b < 60) : colF (wholeF f k p) (k + p) b = code (colF f k b) p := by
 have hX := zgo f k b
 refine zfj (by rw [zby, zxi _ hX, zby]) fun j hj => ?_
 rw [zby] at hj
 rw [zil _ _ _ _ hj]
 by_cases h : j < k
 .rw [show wholeF f k p j b = f j b from zem f k p 60 j b h, code]
  unfold sq
  rw [List.getD_eq_getElem?_getD, List.getElem?_append_left (by rw [zby]; exact h), <- List.getD_eq_getElem?_getD]
  exact (zil f k b j h).symm
 .rw [zbch f k p j b h hb, zms ((zle _ hX p).sq _), code]
  unfold sq
  rw [List.getD_eq_getElem?_getD, List.getD_eq_getElem?_getD, List.getElem?_append_right (by rw [zby]; omega), zby]
theorem zys (f : Fb) (k p b : Nat) (hb : b < 60) : allz (vals (colF (wholeF f k p) (k + p) b) p) = true := by
 rw [zbdq f k p b hb]
 exact zbaq (zgo f k b) p
def mdF (n p : Nat) (f : Fb) (er : List Int) : Fb := fun i b => match mendF masseyF n p (colF f n b) er with | .ok m _ => UInt8.ofNat (sq m i) | _ => 0
def okAt (n p : Nat) (f : Fb) (er : List Int) (b : Nat) : Bool := match mendF masseyF n p (colF f n b) er with | .ok _ _ => true | _ => false
def okTo (n p : Nat) (f : Fb) (er : List Int) (t : Nat) : Bool := (List.range t).all (okAt n p f er)
theorem zbfn (n p : Nat) (f : Fb) (er : List Int) (t : Nat) : okTo n p f er (t + 1) = (okTo n p f er t && okAt n p f er t) := by
 rw [okTo, okTo, List.range_succ, List.all_append]; simp
theorem zbbo {n p : Nat} {f : Fb} {er : List Int} {t : Nat} (ht : t < 60) (h : okAt n p f er t = false) : okTo n p f er 60 = false := by
 rw [okTo, List.all_eq_false]
 exact ⟨t, List.mem_range.2 ht, by rw [h]; simp⟩
def mdT (n p : Nat) (f : Fb) (er : List Int) (t : Nat) : Fb := fun i b => if b < t then mdF n p f er i b else 0
theorem zbjd (n p : Nat) (f : Fb) (er : List Int) (t : Nat) (m : List Nat) (l : List Nat) (h : mendF masseyF n p (colF f n t) er = .ok m l) : grid n (putF (mdT n p f er t) 0 t m n) = grid n (mdT n p f er (t + 1)) := by
 refine zbw fun i hi b _ => ?_
 unfold putF mdT
 by_cases e : b = t
 .subst e
  rw [if_pos (by omega), if_pos (by omega), mdF, h, Nat.sub_zero]
 .rw [if_neg (by omega)]
  by_cases h3 : b < t
  .rw [if_pos h3, if_pos (by omega)]
  .rw [if_neg h3, if_neg (by omega)]
theorem zbjc (n p : Nat) (f : Fb) (er : List Int) : grid n (mdT n p f er 60) = grid n (mdF n p f er) :=
 zbw fun i _ b hb => if_pos hb
theorem zbje (n p : Nat) (f : Fb) (er : List Int) : grid n (mdT n p f er 0) = List.replicate (n * 60) 0 := by
 refine List.ext_getElem? fun q => ?_
 by_cases h : q < n * 60
 .rw [zct _ _ _ h, List.getElem?_replicate, if_pos h, mdT, if_neg (by omega)]
 .rw [List.getElem?_eq_none (by rw [zan]; omega), List.getElem?_eq_none (by simp; omega)]
def unlF (n : Nat) (f g : Fb) (so : List Nat) : List Nat := (List.range n).filter fun i => decide (bkF f i ≠ bkF g i) || decide (i ∈ so)
theorem zbgy (n : Nat) (f g : Fb) (so : List Nat) : unlF (n + 1) f g so = unlF n f g so ++ if (decide (bkF f n ≠ bkF g n) || decide (n ∈ so)) = true then [n] else [] := by
 rw [unlF, List.range_succ, List.filter_append, <- unlF, List.filter_cons, List.filter_nil]
theorem zbaf (n : Nat) (f g : Fb) (so : List Nat) : (unlF n f g so).length <= n := by
 have := List.length_filter_le (fun i => decide (bkF f i ≠ bkF g i) || decide (i ∈ so)) (List.range n)
 rwa [List.length_range] at this
def seenF (S : List (List UInt8)) : Fb := fun i b => (blk (S.getD i [])).getD b 0
theorem zna (S : List (List UInt8)) (i : Nat) : bkF (seenF S) i = blk (S.getD i []) := by
 refine List.ext_getElem? fun b => ?_
 by_cases hb : b < 60
 .rw [zgn _ _ _ hb, seenF, List.getD_eq_getElem?_getD, List.getElem?_eq_getElem (by rw [blk_length]; exact hb), Option.getD_some]
 .rw [List.getElem?_eq_none (by rw [zay]; omega), List.getElem?_eq_none (by rw [blk_length]; omega)]
def erasedF (S : List (List UInt8)) (n : Nat) : List Nat := (List.range n).filter fun i => !rightT (S.getD i [])
theorem zuf (S : List (List UInt8)) (n : Nat) : erasedF S (n + 1) = erasedF S n ++ if rightT (S.getD n []) = false then [n] else [] := by
 rw [erasedF, List.range_succ, List.filter_append, <- erasedF, List.filter_cons, List.filter_nil]
 cases rightT (S.getD n []) <;> rfl
theorem zog (S : List (List UInt8)) (n : Nat) : ∀ x ∈ erasedF S n, x < n := fun x hx => by
 have := (List.mem_filter.1 hx).1
 simpa using this
theorem zof (S : List (List UInt8)) (n : Nat) : (erasedF S n).length <= n := by
 have := List.length_filter_le (fun i => !rightT (S.getD i [])) (List.range n)
 rwa [List.length_range] at this
theorem zyn {G : List Bool} {i : Nat} (hi : i < G.length) : cnt (G.set i true) <= cnt G + 1 := by
 cases h : gAt G i with
 | true => rw [zwg h]; omega
 | false => rw [zzg hi h]; omega
theorem zmx {n : Nat} : ∀ (er : List Int) (G : List Bool), G.length = n -> inB n er = true -> cnt (setG G er) <= cnt G + er.length
 | [], G, _, _ => by simp [setG]
 | a :: l, G, hG, hb => by
  have hb2 : inB n l = true := by
   unfold inB at hb ⊢
   rw [List.all_cons, Bool.and_eq_true] at hb; exact hb.2
  have ha : a.toNat < n := by
   unfold inB at hb
   rw [List.all_cons, Bool.and_eq_true, Bool.and_eq_true, decide_eq_true_iff, decide_eq_true_iff] at hb
   omega
  have h1 := zmx l (G.set a.toNat true) (by rw [List.length_set]; exact hG) hb2
  have h2 := zyn (G := G) (i := a.toNat) (by omega)
  show cnt (setG (G.set a.toNat true) l) <= _
  rw [List.length_cons]
  omega
theorem zbdl (n : Nat) : cnt (noneG n) = 0 := by unfold cnt noneG; simp [List.count_replicate]
theorem zsq {l : List UInt8} (h : rightT l = true) : l = sealB (blk l) := by
 unfold rightT at h
 rw [Bool.and_eq_true, decide_eq_true_iff, decide_eq_true_iff] at h
 obtain ⟨h1, h2⟩ := h
 have h3 : ¬ l.length < 4 := by omega
 have h4 : l.drop (l.length - 4) = tailB (sumI (l.take (l.length - 4))) := by
  by_cases h5 : l.drop (l.length - 4) = tailB (sumI (l.take (l.length - 4)))
  .exact h5
  .rw [zrr h3 h5] at h1
   cases h1
 have e : blk l = l.take 60 := by unfold blk; rw [h2]; simp
 rw [e, sealB]
 rw [h2] at h4
 rw [<- h4, List.take_append_drop]
def badL (S : List (List UInt8)) (F : Fb) (n : Nat) : List Nat := (List.range n).filter fun i => decide (S.getD i [] ≠ sealB (bkF F i))
theorem zkf {α : Type} (P Q : α -> Bool) : ∀ l : List α, (l.filter fun x => P x || Q x).length = (l.filter P).length + (l.filter fun x => !P x && Q x).length
 | [] => rfl
 | a :: l => by
  have ih := zkf P Q l
  rw [List.filter_cons, List.filter_cons, List.filter_cons]
  cases P a <;> cases Q a <;> simp [ih] <;> omega
theorem zbcw (S : List (List UInt8)) (F : Fb) (n : Nat) : (badL S F n).length = (erasedF S n).length + ((List.range n).filter fun i => rightT (S.getD i []) && decide (S.getD i [] ≠ sealB (bkF F i))).length := by
 have h := zkf (fun i => !rightT (S.getD i [])) (fun i => decide (S.getD i [] ≠ sealB (bkF F i))) (List.range n)
 have e : ((List.range n).filter fun i => !rightT (S.getD i []) || decide (S.getD i [] ≠ sealB (bkF F i))) = badL S F n := by
  unfold badL
  refine List.filter_congr fun i _ => ?_
  cases hr : rightT (S.getD i []) with
  | true => rfl
  | false =>
   have : S.getD i [] ≠ sealB (bkF F i) := fun e => by
    rw [e, zot _ (zay _ _)] at hr
    cases hr
   rw [decide_eq_true this]; rfl
 rw [e] at h
 rw [h, erasedF]
 congr 2
 refine List.filter_congr fun i _ => ?_
 rw [Bool.not_not]
theorem zbik {n : Nat} {er : List Nat} (h : ∀ x ∈ er, x < n) (j : Nat) : gAt (markE n (er.map fun x : Nat => (x : Int))) j = decide (j ∈ er) := by
 have hb : inB n (er.map fun x : Nat => (x : Int)) = true := by
  unfold inB
  rw [List.all_eq_true]
  intro x hx
  obtain ⟨y, hy, rfl⟩ := List.mem_map.1 hx
  have := h y hy
  simp
  omega
 have hn : gAt (noneG n) j = false := by
  unfold gAt noneG
  rw [List.getD_eq_getElem?_getD, List.getElem?_replicate]
  split <;> rfl
 unfold markE
 rw [zun n _ _ j (by simp [noneG]) hb, hn, Bool.false_or, Bool.eq_iff_iff, decide_eq_true_iff, List.any_eq_true]
 constructor
 .rintro ⟨x, hx, h2⟩
  obtain ⟨y, hy, rfl⟩ := List.mem_map.1 hx
  have : y = j := by simpa using h2
  rw [<- this]; exact hy
 .intro hj
  exact ⟨(j : Int), List.mem_map.2 ⟨j, hj, rfl⟩, by simp⟩
theorem zbgd {k p : Nat} {f : Fb} {S : List (List UInt8)} (hk : 1 <= k) (hp : 1 <= p) (hn : k + p <= 255)
  (hq : (erasedF S (k + p)).length + 2 * ((List.range (k + p)).filter fun i => rightT (S.getD i []) && decide (S.getD i [] ≠ sealB (bkF (wholeF f k p) i))).length <= p) (b : Nat) (hb : b < 60) :
  ∃ l, mendF masseyF (k + p) p (colF (seenF S) (k + p) b) ((erasedF S (k + p)).map fun x : Nat => (x : Int)) = .ok (colF (wholeF f k p) (k + p) b) l := by
 have hlt := zog S (k + p)
 have hb2 : inB (k + p) ((erasedF S (k + p)).map fun x : Nat => (x : Int)) = true := by
  unfold inB
  rw [List.all_eq_true]
  intro x hx
  obtain ⟨y, hy, rfl⟩ := List.mem_map.1 hx
  have := hlt y hy
  simp
  omega
 refine ⟨_, SolMath.decode ⟨hn, zgo _ _ _, zby _ _ _, zgo _ _ _, zby _ _ _, allz_zero.1 (zys f k p b hb)⟩ hp hb2 ?_⟩
 have h1 := zmx ((erasedF S (k + p)).map fun x : Nat => (x : Int)) (noneG (k + p)) (by simp [noneG]) hb2
 rw [zbdl, Nat.zero_add, List.length_map] at h1
 have h2 : ocnt (SolMath.oth (colF (seenF S) (k + p) b) (colF (wholeF f k p) (k + p) b) (markE (k + p) ((erasedF S (k + p)).map fun x : Nat => (x : Int)))) (k + p) <= ((List.range (k + p)).filter fun i => rightT (S.getD i []) && decide (S.getD i [] ≠ sealB (bkF (wholeF f k p) i))).length := by
  unfold ocnt
  refine zeo _ _ _ fun i hi h => ?_
  have hin := List.mem_range.1 hi
  rw [decide_eq_true_iff] at h
  unfold SolMath.oth at h
  rw [zbik hlt] at h
  by_cases hm : i ∈ erasedF S (k + p)
  .rw [decide_eq_true hm, if_pos rfl] at h
   exact absurd rfl h
  .rw [decide_eq_false hm, if_neg (by simp)] at h
   have hr : rightT (S.getD i []) = true := by
    cases hr : rightT (S.getD i []) with
    | true => rfl
    | false => exact absurd (List.mem_filter.2 ⟨hi, by rw [hr]; rfl⟩) hm
   rw [hr, Bool.true_and, decide_eq_true_iff]; intro e
   unfold SolMath.er at h
   rw [zil _ _ _ _ hin, zil _ _ _ _ hin] at h
   have : seenF S i b = wholeF f k p i b := by
    have h5 : bkF (seenF S) i = bkF (wholeF f k p) i := by rw [zna, e, zto _ (zay _ _)]
    exact bkF_eq.1 h5 b hb
   rw [this, Nat.xor_self] at h; exact h rfl
 unfold markE at h2 ⊢
 omega
theorem zbgc {k p : Nat} {f : Fb} {S : List (List UInt8)} (hk : 1 <= k) (hp : 1 <= p) (hn : k + p <= 255)
  (hq : (∀ i, i < k + p -> S.getD i [] ≠ sealB (bkF (wholeF f k p) i) -> rightT (S.getD i []) = false) ∧ (badL S (wholeF f k p) (k + p)).length <= p ∨ (badL S (wholeF f k p) (k + p)).length <= p / 2) :
  okTo (k + p) p (seenF S) ((erasedF S (k + p)).map fun x : Nat => (x : Int)) 60 = true ∧
  grid (k + p) (mdF (k + p) p (seenF S) ((erasedF S (k + p)).map fun x : Nat => (x : Int))) = grid (k + p) (wholeF f k p) ∧
  unlF (k + p) (seenF S) (mdF (k + p) p (seenF S) ((erasedF S (k + p)).map fun x : Nat => (x : Int))) (erasedF S (k + p)) = badL S (wholeF f k p) (k + p) := by
 have hc := zbcw S (wholeF f k p) (k + p)
 have hw := zbgd (S := S) (f := f) hk hp hn (by
  rcases hq with ⟨h1, h2⟩ | h
  .have h0 : ((List.range (k + p)).filter fun i => rightT (S.getD i []) && decide (S.getD i [] ≠ sealB (bkF (wholeF f k p) i))) = [] := by
    rw [List.filter_eq_nil_iff]; intro i hi h; rw [Bool.and_eq_true, decide_eq_true_iff] at h; rw [h1 i (List.mem_range.1 hi) h.2] at h
    cases h.1
   rw [h0] at hc ⊢
   simp at hc ⊢
   omega
  .omega)
 have hmd : ∀ i, i < k + p -> ∀ b, b < 60 -> mdF (k + p) p (seenF S) ((erasedF S (k + p)).map fun x : Nat => (x : Int)) i b = wholeF f k p i b := fun i hi b hb => by
  obtain ⟨l, hl⟩ := hw b hb
  rw [mdF, hl]
  show UInt8.ofNat (sq (colF (wholeF f k p) (k + p) b) i) = _
  rw [zil _ _ _ _ hi, toNat_ofNat']
 refine ⟨?_, zbw hmd, ?_⟩
 .unfold okTo
  rw [List.all_eq_true]
  intro b hb
  obtain ⟨l, hl⟩ := hw b (List.mem_range.1 hb)
  rw [okAt, hl]
 .unfold unlF badL
  refine List.filter_congr fun i hi => ?_
  have hin := List.mem_range.1 hi
  have e : bkF (mdF (k + p) p (seenF S) ((erasedF S (k + p)).map fun x : Nat => (x : Int))) i = bkF (wholeF f k p) i := bkF_eq.2 fun b hb => hmd i hin b hb
  rw [e, zna]
  have hm : (i ∈ erasedF S (k + p)) ↔ rightT (S.getD i []) = false := by
   unfold erasedF
   rw [List.mem_filter]
   constructor
   .rintro ⟨_, h⟩; simpa using h
   .intro h; exact ⟨hi, by rw [h]; rfl⟩
  rw [Bool.eq_iff_iff, Bool.or_eq_true, decide_eq_true_iff, decide_eq_true_iff, decide_eq_true_iff, hm]
  constructor
  .rintro (h | h) e2
   .rw [e2, zto _ (zay _ _)] at h
    exact h rfl
   .rw [e2, zot _ (zay _ _)] at h
    cases h
  .intro h
   by_cases hr : rightT (S.getD i []) = true
   .left
    intro e2
    have := zsq hr
    rw [e2] at this; exact h this
   .right; simpa using hr
theorem zbhm {S : List (List UInt8)} {F : Fb} {n : Nat} (h : ∀ i, i < n -> S.getD i [] = sealB (bkF F i)) : badL S F n = [] := by
 unfold badL
 rw [List.filter_eq_nil_iff]
 intro i hi
 rw [decide_eq_true_iff, h i (List.mem_range.1 hi)]
 exact fun hh => hh rfl
end
section
open Go.RowKit FlaMath CrcMath GfMath PolyMath RsMath SolMath
def pageF (n : Nat) (X : List UInt8) (j : Nat) : List Fop := [(((n * 64 + j * 16 : Nat) : Int), some ((X.drop (j * 16)).take 16))]
def eraF (n : Nat) : List Fop := [((n : Int), none)]
def layF (n : Nat) (X : List UInt8) : List Fop := eraF n ++ seqF 4 (pageF n X)
theorem zboz {D : Dv} (h : Up D) {i : Nat} (hi : i < D.L.length) (hl : D.L.getD i false = true) : runE (eraF i) D = 4 ∧ runD (eraF i) D = D := by
 unfold eraF
 rw [zhf, zhe]
 refine ⟨?_, ?_⟩
 .show eraseE D i = 4
  unfold eraseE
  rw [h.dn, if_neg (by decide), if_pos (by omega), Int.toNat_natCast, hl]; rfl
 .show eraseD D i = D
  unfold eraseD eraseB
  rw [Int.toNat_natCast, hl]; simp
structure LayPart (D : Dv) (n : Nat) (X : List UInt8) (t : Nat) (D' : Dv) : Prop where
 up : Up D'
 l : D'.L = D.L
 len : D'.C.length = D.C.length
 at_ : ∀ q (hq : q < D.C.length), D'.C[q]'(by rw [len]; exact hq) = if n * 64 <= q ∧ q < n * 64 + t * 16 then X.getD (q - n * 64) 0 else if n * 64 <= q ∧ q < n * 64 + 64 then 255 else D.C[q]
theorem zbnt {D : Dv} (h : Up D) {i : Nat} (X : List UInt8) (hi : i < D.L.length) (hl : D.L.getD i false = false) : runE (eraF i) D = 0 ∧ LayPart D i X 0 (runD (eraF i) D) := by
 unfold eraF
 rw [zhf, zhe]
 refine ⟨?_, ?_⟩
 .show eraseE D i = 0
  unfold eraseE
  rw [h.dn, if_neg (by decide), if_pos (by omega), Int.toNat_natCast, hl, h.burnB]; rfl
 .show LayPart D i X 0 (eraseD D i)
  have hB : eraseB D i = true := by
   unfold eraseB
   rw [Int.toNat_natCast, hl, h.dn, decide_eq_true (by omega)]; rfl
  have hw : Up (worn D i) := ⟨h.dn, h.lit, ⟨h.ok.one, h.ok.top, h.ok.cells, by show (D.E.set _ _).length = _; rw [List.length_set]; exact h.ok.worn⟩⟩
  rw [eraseD, hB, if_pos rfl, Int.toNat_natCast, zxa hw]
  have hlen : (prog D.C (i * 64) 64 fE).length = D.C.length := zbu _ _ _ _
  refine ⟨⟨h.dn, h.lit, ⟨h.ok.one, h.ok.top, by show (prog D.C _ _ _).length = _; rw [hlen]; exact h.ok.cells, hw.ok.worn⟩⟩, rfl, hlen, fun q hq => ?_⟩
  refine (znj D.C (i * 64) 64 fE q hq).trans ?_
  rw [if_neg (c := i * 64 <= q ∧ q < i * 64 + 0 * 16) (by omega)]
  rfl
theorem zbmo {D D' : Dv} {n : Nat} {X : List UInt8} {t : Nat} (h : LayPart D n X t D') (hX : X.length = 64) (hn : n < D.L.length) (hl : D.L.getD n false = false) (ht : t < 4) (hok : D.Ok) : runE (pageF n X t) D' = 0 ∧ LayPart D n X (t + 1) (runD (pageF n X t) D') := by
 obtain ⟨a, ha⟩ : ∃ a, n * 64 + t * 16 = a := ⟨_, rfl⟩
 have hc := hok.cells
 have hlt : ((X.drop (t * 16)).take 16).length = 16 := by rw [List.length_take, List.length_drop]; omega
 have hm : ((a : Int).tmod 16) = 0 := by
  rw [Int.tmod_eq_emod_of_nonneg (by omega)]
  omega
 have hb : bey D'.C.length (a : Int) 16 = false := by rw [h.len]; exact decide_eq_false (by omega)
 have hq : ¬ ((a : Int).tmod 16 ≠ 0 ∨ ((X.drop (t * 16)).take 16).length ≠ 16) := by
  rintro (h | h)
  .exact h hm
  .exact h hlt
 have hd : (a : Int).toNat / 64 = n := by rw [Int.toNat_natCast]; omega
 have hg : D'.L.getD n false = false := by rw [h.l]; exact hl
 unfold pageF
 rw [zhf, zhe, ha]
 refine ⟨?_, ?_⟩
 .show programE D' a _ = 0
  unfold programE
  rw [h.up.dn, if_neg (by decide), if_neg hq, hb, if_neg (by decide), hd, hg, if_neg (by decide), h.up.burnB]; rfl
 .show LayPart D n X (t + 1) (programD D' a _)
  have hB : programB D' a ((X.drop (t * 16)).take 16) = true := by
   unfold programB
   rw [h.up.dn, decide_eq_false hq, hb, hd, hg]; rfl
  rw [programD, hB, if_pos rfl, Int.toNat_natCast, zxa h.up]
  have hlen : (prog D'.C a 16 (fP ((X.drop (t * 16)).take 16))).length = D.C.length := by rw [zbu, h.len]
  refine ⟨⟨h.up.dn, h.up.lit, ⟨h.up.ok.one, h.up.ok.top, by show (prog D'.C _ _ _).length = _; rw [zbu]; exact h.up.ok.cells, h.up.ok.worn⟩⟩, h.l, hlen, fun q hq => ?_⟩
  have hq' : q < D'.C.length := by rw [h.len]; exact hq
  refine (znj D'.C a 16 (fP ((X.drop (t * 16)).take 16)) q hq').trans ?_
  rw [h.at_ q hq]
  by_cases h1 : a <= q ∧ q < a + 16
  .rw [if_pos h1, if_neg (by omega), if_pos (by omega), if_pos (by omega)]
   unfold fP
   rw [zxd, List.getD_eq_getElem?_getD, List.getElem?_take, if_pos (by omega), List.getElem?_drop, <- List.getD_eq_getElem?_getD]
   congr 1
   omega
  .rw [if_neg h1]
   by_cases h2 : n * 64 <= q ∧ q < n * 64 + t * 16
   .rw [if_pos h2, if_pos (by omega)]
   .rw [if_neg h2, if_neg (c := n * 64 <= q ∧ q < n * 64 + (t + 1) * 16) (by omega)]
structure Aft (D : Dv) (σ : Nat -> List UInt8) (D' : Dv) : Prop where
 up : Up D'
 l : D'.L = D.L
 len : D'.C.length = D.C.length
 at_ : ∀ j, j < D.L.length -> sec D'.C j = σ j
theorem Aft.refl {D : Dv} (h : Up D) : Aft D (sec D.C) D := ⟨h, rfl, rfl, fun _ _ => rfl⟩
theorem Aft.trans {D D' D'' : Dv} {σ τ : Nat -> List UInt8} (h : Aft D σ D') (h2 : Aft D' τ D'') : Aft D τ D'' := ⟨h2.up, h2.l.trans h.l, h2.len.trans h.len, fun j hj => h2.at_ j (by rw [h.l]; exact hj)⟩
theorem Aft.congr {D D' : Dv} {σ τ : Nat -> List UInt8} (h : Aft D σ D') (h2 : ∀ j, j < D.L.length -> σ j = τ j) : Aft D τ D' := ⟨h.up, h.l, h.len, fun j hj => (h.at_ j hj).trans (h2 j hj)⟩
def putS (σ : Nat -> List UInt8) (n : Nat) (X : List UInt8) : Nat -> List UInt8 := fun j => if j = n then X else σ j
theorem zzy (C : List UInt8) (j b : Nat) (hb : b < 64) : (sec C j)[b]? = C[j * 64 + b]? := by
 rw [sec, List.getElem?_take, if_pos hb, List.getElem?_drop]
theorem zboc {D : Dv} (h : Up D) {n : Nat} {X : List UInt8} (hX : X.length = 64) (hn : n < D.L.length) (hl : D.L.getD n false = false) : runE (layF n X) D = 0 ∧ Aft D (putS (sec D.C) n X) (runD (layF n X) D) := by
 have h0 := zbnt h X hn hl
 have hall : ∀ t, t <= 4 -> runE (eraF n ++ seqF t (pageF n X)) D = 0 ∧ LayPart D n X t (runD (eraF n ++ seqF t (pageF n X)) D) := by
  intro t
  induction t with
  | zero => intro _; rw [zry, List.append_nil]; exact h0
  | succ t ih =>
   intro ht; obtain ⟨i1, i2⟩ := ih (by omega)
   obtain ⟨p1, p2⟩ := zbmo i2 hX hn hl (by omega) h.ok
   obtain ⟨g1, g2⟩ := zwe i1 p1; rw [zhu, <- List.append_assoc]; exact ⟨g1, by rw [g2]; exact p2⟩
 obtain ⟨h1, h2⟩ := hall 4 (by omega)
 have hc := h.ok.cells
 refine ⟨h1, h2.up, h2.l, h2.len, fun j hj => ?_⟩
 show sec (runD (layF n X) D).C j = _
 unfold putS
 refine List.ext_getElem? fun b => ?_
 by_cases hb : b < 64
 .have hq : j * 64 + b < D.C.length := by omega
  have hq' : j * 64 + b < (runD (layF n X) D).C.length := by have := h2.len; unfold layF; omega
  rw [zzy _ _ _ hb, List.getElem?_eq_getElem hq']
  have := h2.at_ _ hq
  rw [show (runD (layF n X) D).C[j * 64 + b]'hq' = _ from this]
  by_cases e : j = n
  .subst e
   rw [if_pos (by omega), if_pos rfl, List.getD_eq_getElem?_getD, show j * 64 + b - j * 64 = b by omega, List.getElem?_eq_getElem (by omega), Option.getD_some]
  .rw [if_neg (by omega), if_neg (by omega), if_neg e, zzy _ _ _ hb, List.getElem?_eq_getElem hq]
 .have hl1 : (sec (runD (layF n X) D).C j).length <= b := by rw [sec, List.length_take]; omega
  rw [List.getElem?_eq_none hl1]
  symm
  split
  .exact List.getElem?_eq_none (by omega)
  .exact List.getElem?_eq_none (by rw [sec, List.length_take]; omega)
def putsS (σ : Nat -> List UInt8) (P : Nat -> Nat) (X : Nat -> List UInt8) : Nat -> Nat -> List UInt8
 | 0 => σ
 | t + 1 => putS (putsS σ P X t) (P t) (X t)
theorem zzq {D : Dv} (h : Up D) {P : Nat -> Nat} {X : Nat -> List UInt8} : ∀ t, (∀ i, i < t -> (X i).length = 64 ∧ P i < D.L.length ∧ D.L.getD (P i) false = false) -> runE (seqF t fun i => layF (P i) (X i)) D = 0 ∧ Aft D (putsS (sec D.C) P X t) (runD (seqF t fun i => layF (P i) (X i)) D)
 | 0, _ => ⟨rfl, Aft.refl h⟩
 | t + 1, hX => by
  obtain ⟨i1, i2⟩ := zzq h t fun i hi => hX i (by omega)
  obtain ⟨x1, x2, x3⟩ := hX t (by omega)
  obtain ⟨p1, p2⟩ := zboc i2.up x1 (by rw [i2.l]; exact x2) (by rw [i2.l]; exact x3)
  obtain ⟨g1, g2⟩ := zpa (n := t) i1 p1
  refine ⟨g1, ?_⟩
  rw [g2]
  refine (i2.trans p2).congr fun j hj => ?_
  show putS _ _ _ j = putS _ _ _ j
  unfold putS
  split
  .rfl
  .exact i2.at_ j hj
theorem zfx {σ : Nat -> List UInt8} {P : Nat -> Nat} {X : Nat -> List UInt8} {j : Nat} : ∀ t, (∀ i, i < t -> P i ≠ j) -> putsS σ P X t j = σ j
 | 0, _ => rfl
 | t + 1, h => by
  show putS _ _ _ j = _
  unfold putS
  rw [if_neg (fun e => h t (by omega) e.symm)]
  exact zfx t fun i hi => h i (by omega)
theorem zjk {σ : Nat -> List UInt8} {P : Nat -> Nat} {X : Nat -> List UInt8} {i : Nat} : ∀ t, i < t -> (∀ a b, a < t -> b < t -> P a = P b -> a = b) -> putsS σ P X t (P i) = X i
 | 0, h, _ => by omega
 | t + 1, h, hi => by
  show putS _ _ _ (P i) = _
  unfold putS
  by_cases e : P i = P t
  .rw [if_pos e, hi i t h (by omega) e]
  .rw [if_neg e]
   refine zjk t ?_ fun a b ha hb => hi a b (by omega) (by omega)
   by_cases e2 : i = t
   .exact absurd (by rw [e2]) e
   .omega
def plF (n s slot t i : Nat) : Nat := slot * (n * s) + i * s + t
theorem zlx {n s t i : Nat} (ht : t < s) (hi : i < n) : i * s + t < n * s := by
 have h1 : (i + 1) * s <= n * s := Nat.mul_le_mul_right s (by omega)
 rw [Nat.succ_mul] at h1
 omega
theorem zvj {s t i : Nat} (ht : t < s) : (i * s + t) / s = i ∧ (i * s + t) % s = t := by
 constructor
 .rw [Nat.add_comm, Nat.add_mul_div_right _ _ (by omega), Nat.div_eq_of_lt ht, Nat.zero_add]
 .rw [Nat.add_comm, Nat.add_mul_mod_self_right, Nat.mod_eq_of_lt ht]
theorem zvk {n s slot t i j : Nat} (ht : t < s) (h : plF n s slot t i = plF n s slot t j) : i = j := by
 unfold plF at h
 have h1 : i * s = j * s := by omega
 exact Nat.eq_of_mul_eq_mul_right (by omega) h1
theorem zsy {n s slot t i : Nat} (hs : slot < 3) (ht : t < s) (hi : i < n) : plF n s slot t i < 3 * (n * s) := by
 have h1 := zlx ht hi
 unfold plF
 have h2 : slot = 0 ∨ slot = 1 ∨ slot = 2 := by omega
 rcases h2 with rfl | rfl | rfl <;> omega
theorem pl_slot {n s slot t i slot' t' i' : Nat} (ht : t < s) (hi : i < n) (ht' : t' < s) (hi' : i' < n) (h : plF n s slot t i = plF n s slot' t' i') : slot = slot' ∧ t = t' ∧ i = i' := by
 have h1 := zlx ht hi
 have h2 := zlx ht' hi'
 unfold plF at h
 obtain ⟨M, hM⟩ : ∃ M, n * s = M := ⟨_, rfl⟩
 obtain ⟨x, hx⟩ : ∃ x, i * s + t = x := ⟨_, rfl⟩
 obtain ⟨y, hy⟩ : ∃ y, i' * s + t' = y := ⟨_, rfl⟩
 rw [hM, Nat.add_assoc, Nat.add_assoc, hx, hy] at h
 rw [hM, hx] at h1
 rw [hM, hy] at h2
 have e1 : slot = slot' := by
  have a1 : (slot * M + x) / M = slot := by rw [Nat.mul_comm, Nat.mul_add_div (by omega), Nat.div_eq_of_lt h1, Nat.add_zero]
  have a2 : (slot' * M + y) / M = slot' := by rw [Nat.mul_comm, Nat.mul_add_div (by omega), Nat.div_eq_of_lt h2, Nat.add_zero]
  rw [<- a1, <- a2, h]
 subst e1
 have e2 : x = y := by omega
 rw [<- hx, <- hy] at e2
 have b1 := zvj (i := i) ht
 have b2 := zvj (i := i') ht'
 rw [e2] at b1
 exact ⟨rfl, by rw [<- b1.2, b2.2], by rw [<- b1.1, b2.1]⟩
theorem zbpg {n s slot j : Nat} (h1 : slot * (n * s) <= j) (h2 : j < slot * (n * s) + n * s) : (j - slot * (n * s)) % s < s ∧ (j - slot * (n * s)) / s < n ∧ j = plF n s slot ((j - slot * (n * s)) % s) ((j - slot * (n * s)) / s) := by
 have hs : 0 < s := by
  rcases Nat.eq_zero_or_pos s with e | e
  .subst e; rw [Nat.mul_zero] at h1 h2; omega
  .exact e
 obtain ⟨x, hx⟩ : ∃ x, j - slot * (n * s) = x := ⟨_, rfl⟩
 rw [hx]
 have hlt : x < n * s := by omega
 refine ⟨Nat.mod_lt _ hs, (Nat.div_lt_iff_lt_mul hs).2 hlt, ?_⟩
 unfold plF
 have := Nat.div_add_mod x s
 rw [Nat.mul_comm] at this
 omega
def secS (σ : Nat -> List UInt8) (n s slot t : Nat) : List (List UInt8) := (List.range n).map fun i => σ (plF n s slot t i)
theorem zbke (σ : Nat -> List UInt8) (n s slot t i : Nat) (h : i < n) : (secS σ n s slot t).getD i [] = σ (plF n s slot t i) := by
 simp [secS, List.getD_eq_getElem?_getD, h]
def okS (n p : Nat) (S : List (List UInt8)) : Bool := okTo n p (seenF S) ((erasedF S n).map fun x : Nat => (x : Int)) 60
def mdS (n p : Nat) (S : List (List UInt8)) : Fb := mdF n p (seenF S) ((erasedF S n).map fun x : Nat => (x : Int))
def unS (n p : Nat) (S : List (List UInt8)) : List Nat := unlF n (seenF S) (mdS n p S) (erasedF S n)
def GoodS (k p : Nat) (f : Fb) (S : List (List UInt8)) : Prop :=
 (∀ i, i < k + p -> S.getD i [] ≠ sealB (bkF (wholeF f k p) i) -> rightT (S.getD i []) = false) ∧ (badL S (wholeF f k p) (k + p)).length <= p ∨ (badL S (wholeF f k p) (k + p)).length <= p / 2
theorem zkt {k p : Nat} {f : Fb} {S : List (List UInt8)} (hk : 1 <= k) (hk8 : k <= 8) (hp : 2 <= p) (hp6 : p <= 6) (h : GoodS k p f S) :
  okS (k + p) p S = true ∧ grid (k + p) (mdS (k + p) p S) = grid (k + p) (wholeF f k p) ∧ unS (k + p) p S = badL S (wholeF f k p) (k + p) :=
 zbgc hk (by omega) (by omega) h
def wrS (k p : Nat) (f : Fb) (i : Nat) : List UInt8 := sealB (bkF (wholeF f k p) i)
theorem zbcp (k p : Nat) (f : Fb) (i : Nat) : (wrS k p f i).length = 64 := by rw [wrS, zdh, zay]
theorem zku {k p : Nat} {f : Fb} {S : List (List UInt8)} (h : ∀ i, i < k + p -> S.getD i [] = wrS k p f i) : GoodS k p f S ∧ badL S (wholeF f k p) (k + p) = [] := by
 have h0 := zbhm (S := S) (F := wholeF f k p) (n := k + p) h
 exact ⟨.inr (by rw [h0]; exact Nat.zero_le _), h0⟩
def stF (f : Fb) (k t : Nat) : Fb := fun i b => f (t * k + i) b
theorem zxp (f : Fb) (k : Nat) {t s : Nat} (h : t < s) : ∃ z, grid (k * s) f = grid (k * t) f ++ grid k (stF f k t) ++ z := by
 refine ⟨grid (k * s - k * t - k) fun i => f (k * t + k + i), ?_⟩
 have h1 : k * (t + 1) <= k * s := Nat.mul_le_mul_left k (by omega)
 rw [Nat.mul_succ] at h1
 have e : k * s = k * t + k + (k * s - k * t - k) := by omega
 rw [e, zes, zes, show k * t + k + (k * s - k * t - k) - k * t - k = k * s - k * t - k by omega]
 congr 2
 exact zbw fun i _ b _ => by rw [stF, Nat.mul_comm]
def glF (F : Nat -> Fb) (k : Nat) : Fb := fun i b => F (i / k) (i % k) b
theorem zbil (F : Nat -> Fb) (k t : Nat) (hk : 1 <= k) : grid (k * (t + 1)) (glF F k) = grid (k * t) (glF F k) ++ grid k (F t) := by
 rw [Nat.mul_succ, zes]
 congr 1
 refine zbw fun i hi b _ => ?_
 show F ((k * t + i) / k) ((k * t + i) % k) b = _
 rw [Nat.mul_add_div (by omega), Nat.div_eq_of_lt hi, Nat.add_zero, Nat.mul_add_mod, Nat.mod_eq_of_lt hi]
theorem zbny {f : Fb} {F : Nat -> Fb} {k s : Nat} (hk : 1 <= k) (h : ∀ t, t < s -> ∀ i, i < k -> ∀ b, b < 60 -> F t i b = stF f k t i b) : grid (k * s) (glF F k) = grid (k * s) f :=
 zbw fun i hi b hb => by
  have h1 : i / k < s := (Nat.div_lt_iff_lt_mul (by omega)).2 (by rw [Nat.mul_comm]; exact hi)
  have h2 := h _ h1 (i % k) (Nat.mod_lt _ (by omega)) b hb
  rw [glF, h2, stF]
  have := Nat.div_add_mod i k
  rw [Nat.mul_comm] at this
  rw [this]
def slotS (σ : Nat -> List UInt8) (n s slot : Nat) (X : Nat -> Nat -> List UInt8) (m : Nat) : Nat -> List UInt8 := fun j =>
 if slot * (n * s) <= j ∧ j < slot * (n * s) + n * s ∧ (j - slot * (n * s)) % s < m then X ((j - slot * (n * s)) % s) ((j - slot * (n * s)) / s) else σ j
theorem zbcc (σ : Nat -> List UInt8) (n s slot : Nat) (X : Nat -> Nat -> List UInt8) : slotS σ n s slot X 0 = σ := by
 funext j
 rw [slotS, if_neg (by omega)]
theorem znp (σ : Nat -> List UInt8) {n s slot t i : Nat} (X : Nat -> Nat -> List UInt8) {m : Nat} (ht : t < s) (hi : i < n) : slotS σ n s slot X m (plF n s slot t i) = if t < m then X t i else σ (plF n s slot t i) := by
 have h1 := zlx ht hi
 have h2 := zvj (i := i) ht
 have e : plF n s slot t i - slot * (n * s) = i * s + t := by unfold plF; omega
 have h3 : slot * (n * s) <= plF n s slot t i := by unfold plF; omega
 have h4 : plF n s slot t i < slot * (n * s) + n * s := by unfold plF; omega
 rw [slotS, e, h2.1, h2.2]
 by_cases h : t < m
 .rw [if_pos ⟨h3, h4, h⟩, if_pos h]
 .rw [if_neg (fun hh => h hh.2.2), if_neg h]
theorem zsa (σ : Nat -> List UInt8) {n s slot : Nat} (X : Nat -> Nat -> List UInt8) {m j : Nat} (h : j < slot * (n * s) ∨ slot * (n * s) + n * s <= j) : slotS σ n s slot X m j = σ j := by
 rw [slotS, if_neg (by omega)]
theorem zbcb (σ : Nat -> List UInt8) {n s slot t : Nat} (X : Nat -> Nat -> List UInt8) (ht : t < s) (j : Nat) : putsS (slotS σ n s slot X t) (plF n s slot t) (X t) n j = slotS σ n s slot X (t + 1) j := by
 by_cases h : slot * (n * s) <= j ∧ j < slot * (n * s) + n * s
 .obtain ⟨h1, h2, h3⟩ := zbpg h.1 h.2
  generalize (j - slot * (n * s)) % s = t' at h1 h3
  generalize (j - slot * (n * s)) / s = i at h2 h3
  subst h3
  rw [znp σ X h1 h2]
  by_cases e : t' = t
  .subst e
   rw [if_pos (by omega)]
   exact zjk n h2 fun a b _ _ hab => zvk ht hab
  .rw [zfx n fun a ha hp => e (pl_slot ht ha h1 h2 hp).2.1.symm, znp σ X h1 h2]
   by_cases h5 : t' < t
   .rw [if_pos h5, if_pos (by omega)]
   .rw [if_neg h5, if_neg (by omega)]
 .rw [zsa _ _ (by omega), zfx n fun a ha hp => ?_, zsa _ _ (by omega)]
  have h1 := zlx ht ha
  unfold plF at hp
  omega
def writeF (n s slot t : Nat) (X : Nat -> List UInt8) : List Fop := seqF n fun i => layF (plF n s slot t i) (X i)
def fillF (n s slot : Nat) (X : Nat -> Nat -> List UInt8) : List Fop := seqF s fun t => writeF n s slot t (X t)
def Free (D : Dv) (n s slot : Nat) : Prop := ∀ j, slot * (n * s) <= j -> j < slot * (n * s) + n * s -> D.L.getD j false = false
theorem Free.pl {D : Dv} {n s slot t i : Nat} (h : Free D n s slot) (ht : t < s) (hi : i < n) : D.L.getD (plF n s slot t i) false = false := by
 have h1 := zlx ht hi
 exact h _ (by unfold plF; omega) (by unfold plF; omega)
theorem zbko {D : Dv} (h : Up D) {n s slot t : Nat} {X : Nat -> List UInt8} (hs : slot < 3) (ht : t < s) (hX : ∀ i, i < n -> (X i).length = 64) (hL : 3 * (n * s) <= D.L.length) (hf : Free D n s slot) :
  runE (writeF n s slot t X) D = 0 ∧ Aft D (putsS (sec D.C) (plF n s slot t) X n) (runD (writeF n s slot t X) D) :=
 zzq h n fun i hi => ⟨hX i hi, by have := zsy hs ht hi; omega, hf.pl ht hi⟩
theorem zzl {D : Dv} (h : Up D) {n s slot : Nat} {X : Nat -> Nat -> List UInt8} (hs : slot < 3) (hX : ∀ t i, t < s -> i < n -> (X t i).length = 64) (hL : 3 * (n * s) <= D.L.length) (hf : Free D n s slot) : ∀ m, m <= s ->
  runE (seqF m fun t => writeF n s slot t (X t)) D = 0 ∧ Aft D (slotS (sec D.C) n s slot X m) (runD (seqF m fun t => writeF n s slot t (X t)) D)
 | 0, _ => ⟨rfl, by rw [zbcc]; exact Aft.refl h⟩
 | m + 1, hm => by
  obtain ⟨i1, i2⟩ := zzl h hs hX hL hf m (by omega)
  obtain ⟨p1, p2⟩ := zbko i2.up (X := X m) hs (by omega : m < s) (fun i hi => hX m i (by omega) hi) (by rw [i2.l]; exact hL) (fun j h1 h2 => by rw [i2.l]; exact hf j h1 h2)
  obtain ⟨g1, g2⟩ := zpa (n := m) i1 p1
  refine ⟨g1, ?_⟩
  rw [g2]
  refine (i2.trans p2).congr fun j hj => ?_
  rw [<- zbcb (sec D.C) X (by omega : m < s) j]
  by_cases hx : ∃ i, i < n ∧ plF n s slot m i = j
  .obtain ⟨i, hi, rfl⟩ := hx
   rw [zjk n hi fun a b _ _ hab => zvk (by omega) hab, zjk n hi fun a b _ _ hab => zvk (by omega) hab]
  .rw [zfx n fun i hi e => hx ⟨i, hi, e⟩, zfx n fun i hi e => hx ⟨i, hi, e⟩]
   exact i2.at_ j hj
theorem zbif {D : Dv} (h : Up D) {n s slot : Nat} {X : Nat -> Nat -> List UInt8} (hs : slot < 3) (hX : ∀ t i, t < s -> i < n -> (X t i).length = 64) (hL : 3 * (n * s) <= D.L.length) (hf : Free D n s slot) :
  runE (fillF n s slot X) D = 0 ∧ Aft D (slotS (sec D.C) n s slot X s) (runD (fillF n s slot X) D) := zzl h hs hX hL hf s (Nat.le_refl _)
end
section
open Go.RowKit
section
variable {P : Program} {ops : Array Oper} {Q : Exit -> Act -> World -> Prop}
theorem zke {id : Nat} {a : Act} {w : World} (s k : Nat) (X : List Nat) (hkX : k ∉ X) (D : List (Nat × Nat)) (φ : Nat -> Value -> World -> Prop) (G : World -> Prop) (H : Value -> World -> Prop) (hm : P.follows .mixedOrders = true)
  (hsz : s < ops.size) (hord : ordX ops = true) (hcl : ((List.range ops.size).all fun j => (j == s) || X.contains j || reachB ops ops.size s j) = true)
  (hD1 : D.map (·.1) = (List.range ops.size).filter fun j => j != s) (hD2 : (D.map (·.2)).Nodup) (hD3 : (D.all fun p => (ops[p.1]?.bind (·.dst)) == some p.2) = true) (hD4 : (D.all fun p => Nat.blt p.2 a.tmps.size) = true)
  (hS : (ops[s]?.map (·.dst)) = some none) (hmono : ∀ i v w w', φ i v w -> Below w.heap.size w w' -> φ i v w') (hG : G w.drew)
  (step : ∀ p ∈ D, waitsB ops p.1 s = false -> ∀ u w, G w -> Came ops φ u w p.1 ->
   wpOp P ops Q p.1 (fun a' w' => a'.defers = (puts D a u).defers ∧ φ p.1 (a'.tmps.getD p.2 undef) w' ∧ G w' ∧ Below w.heap.size w w') (puts D a u) w)
  (stepX : ∀ p ∈ D, p.1 ∈ X -> ∀ u w, H (u k) w -> Came ops (fun i v _ => i ≠ s -> ∃ w1, φ i v w1) u w p.1 ->
   wpOp P ops Q p.1 (fun a' w' => a'.defers = (puts D a u).defers ∧ (∃ w1, φ p.1 (a'.tmps.getD p.2 undef) w1) ∧ H (u k) w') (puts D a u) w)
  (stepS : ∀ u w, G w -> (∀ p ∈ D, p.1 ∉ X -> φ p.1 (u p.1) w) -> wpOp P ops Q s (fun a' w' => a'.defers = (puts D a u).defers ∧ H (u k) w') (puts D a u) w)
  (fin : ∀ u w, H (u k) w -> (∀ p ∈ D, ∃ w1, φ p.1 (u p.1) w1) -> Q .normal (puts D a u) w) : (Code.region id ops true).wp P Q a w := by
 refine wp_region_any hm ?_
 have hnd1 : (D.map (·.1)).Nodup := by rw [hD1]; exact List.nodup_range.filter _
 have hmemD : ∀ i, i < ops.size -> i ≠ s -> ∃ d, (i, d) ∈ D := fun i hi hne => by
  have : i ∈ D.map (·.1) := by rw [hD1]; exact List.mem_filter.2 ⟨List.mem_range.2 hi, by simpa using hne⟩
  obtain ⟨⟨i', d⟩, hp, rfl⟩ := List.mem_map.1 this
  exact ⟨d, hp⟩
 have hltD : ∀ p ∈ D, p.1 < ops.size ∧ p.1 ≠ s := fun p hp => by
  have : p.1 ∈ D.map (·.1) := List.mem_map.2 ⟨p, hp, rfl⟩
  rw [hD1] at this
  have h := List.mem_filter.1 this
  exact ⟨List.mem_range.1 h.1, by simpa using h.2⟩
 have hclX : ∀ j, j < ops.size -> j ≠ s -> j ∉ X -> reachB ops ops.size s j = true := fun j hj hne hx => by
  have := List.all_eq_true.1 hcl j (List.mem_range.2 hj)
  rw [Bool.or_eq_true, Bool.or_eq_true] at this
  rcases this with (h | h) | h
  .exact absurd (by simpa using h) hne
  .exact absurd (by simpa using h) hx
  .exact h
 have hslot : ∀ p ∈ D, ∀ o, ops[p.1]? = some o -> o.dst = some p.2 ∧ p.2 < a.tmps.size := fun p hp o ho => by
  have hd3 := List.all_eq_true.1 hD3 _ hp
  have hd4 := List.all_eq_true.1 hD4 _ hp
  simp only [ho, Option.bind_some, beq_iff_eq] at hd3
  exact ⟨hd3, by simp [Nat.blt] at hd4; omega⟩
 have keyB : ∀ (fuel : Nat) (listed : Array Bool) (w : World) (u : Nat -> Value) (L : List Nat), listed.size = ops.size -> L.length <= fuel -> (∀ i, listed.getD i true = false -> i ∈ L) -> H (u k) w ->
   (∀ i, listed.getD i true = false -> i ≠ s ∧ i ∈ X) -> (∀ i, i < ops.size -> i ≠ s -> listed.getD i true = true -> ∃ w1, φ i (u i) w1) -> wpAny P .any ops Q fuel listed (puts D a u) w := by
  intro fuel
  induction fuel with
  | zero =>
   intro listed w u L hs hL hin hh hX hφ
   have hall : ∀ i, listed.getD i true = true := fun i => by
    cases hi : listed.getD i true with
    | true => rfl
    | false => have := hin i hi; rw [List.length_eq_zero_iff.1 (Nat.le_zero.1 hL)] at this; cases this
   refine ⟨?_, fin u w hh fun p hp => hφ p.1 (hltD p hp).1 (hltD p hp).2 (hall _)⟩
   rw [List.eq_nil_iff_forall_not_mem]; intro i hi
   have := (mem_ready.1 hi).2.1
   rw [hall i] at this
   cases this
  | succ fuel ih =>
   intro listed w u L hs hL hin hh hX hφ
   refine ⟨fun hr => fin u w hh fun p hp => hφ p.1 (hltD p hp).1 (hltD p hp).2 (zdd hord hs hr _), fun i hi => ?_⟩
   obtain ⟨h1, h2, o, ho, h3⟩ := mem_ready.1 hi; obtain ⟨his, hiX⟩ := hX i h2; obtain ⟨d, hp⟩ := hmemD i h1 his
   have hst := stepX _ hp hiX u w hh (fun o' ho' e he hb => by
    obtain rfl := Option.some.inj (ho'.symm.trans ho); have hl := h3 e he hb
    have hlt : e.on < ops.size := by
     rw [<- hs]
     by_cases hl2 : e.on < listed.size
     .exact hl2
     .simp [Array.getD, hl2] at hl
    intro hes
    refine hφ e.on hlt hes ?_
    rw [zdq (by omega)]
    exact hl)
   obtain ⟨hd3, hd5⟩ := hslot _ hp o ho; have hst2 := zcq (R := fun v w' => (∃ w1, φ i v w1) ∧ H (u k) w') ho hd3 (by rw [zcl]; exact hd5) hst
   refine wpOp_mono ?_ hst2
   rintro a' w' ⟨v, rfl, hv, hh'⟩
   rw [zde u i d v D a hnd1 hD2 hp]
   have eku : upd u i v k = u k := by simp [upd]; intro e; rw [e] at hkX; exact absurd hiX hkX
   refine ih _ w' (upd u i v) (L.erase i) (by simpa using hs) ?_ ?_ (by rw [eku]; exact hh') ?_ ?_
   .rw [List.length_erase_of_mem (hin i h2)]
    omega
   .intro j hj
    have hji : j ≠ i := fun e => by
     subst e
     have : j < listed.size := by omega
     simp [Array.getD, this] at hj
    rw [zae (Ne.symm hji)] at hj; exact (List.mem_erase_of_ne hji).2 (hin j hj)
   .intro j hj
    have hji : j ≠ i := fun e => by
     subst e
     have : j < listed.size := by omega
     simp [Array.getD, this] at hj
    rw [zae (Ne.symm hji)] at hj; exact hX j hj
   .intro j hj hjs hl
    by_cases hji : j = i
    .subst hji
     simpa [upd] using hv
    .have e1 : upd u i v j = u j := by simp [upd, hji]
     rw [e1]; rw [zae (Ne.symm hji)] at hl; exact hφ j hj hjs hl
 have keyA : ∀ (fuel : Nat) (listed : Array Bool) (w : World) (u : Nat -> Value) (L : List Nat), listed.size = ops.size -> L.length <= fuel -> (∀ i, listed.getD i true = false -> i ∈ L) -> listed.getD s true = false -> Anc ops listed -> G w ->
   (∀ i, i < ops.size -> i ≠ s -> listed.getD i true = true -> φ i (u i) w) -> wpAny P .any ops Q fuel listed (puts D a u) w := by
  intro fuel
  induction fuel with
  | zero =>
   intro listed w u L hs hL hin hns _ hg hφ
   have := hin s hns
   rw [List.length_eq_zero_iff.1 (Nat.le_zero.1 hL)] at this
   cases this
  | succ fuel ih =>
   intro listed w u L hs hL hin hns hanc hg hφ
   refine ⟨fun hr => ?_, fun i hi => ?_⟩
   .have := zdd hord hs hr s
    rw [hns] at this
    cases this
   .obtain ⟨h1, h2, o, ho, h3⟩ := mem_ready.1 hi
    have hancn : Anc ops (listed.setIfInBounds i true) := by
     intro j o' ho' hl e he hb
     by_cases ej : i = j
     .subst ej
      obtain rfl := Option.some.inj (ho'.symm.trans ho)
      have := h3 e he hb
      by_cases e2 : i = e.on
      .rw [<- e2, zbf (by omega)]
      .rw [zae e2]; exact this
     .rw [zae ej] at hl
      have := hanc j o' ho' hl e he hb
      by_cases e2 : i = e.on
      .rw [<- e2, zbf (by omega)]
      .rw [zae e2]; exact this
    by_cases his : i = s
    .subst his
     have hall : ∀ j, j < ops.size -> j ≠ i -> j ∉ X -> listed.getD j false = true := fun j hj hne hx =>
      zdg hanc ops.size i j (fun o' ho' e he hb => by
       obtain rfl := Option.some.inj (ho'.symm.trans ho); exact h3 e he hb) (hclX j hj hne hx)
     have hod : o.dst = none := by
      rw [ho] at hS
      simpa using hS
     refine wpOp_mono ?_ (zsb ho hod (stepS u w hg fun p hp hx => hφ p.1 (hltD p hp).1 (hltD p hp).2 (by rw [zdq (by have := (hltD p hp).1; omega)]; exact hall p.1 (hltD p hp).1 (hltD p hp).2 hx)))
     rintro a' w' ⟨rfl, hh⟩
     refine keyB fuel _ w' u (L.erase i) (by simpa using hs) ?_ ?_ hh ?_ ?_
     .rw [List.length_erase_of_mem (hin i h2)]
      omega
     .intro j hj
      have hji : j ≠ i := fun e => by
       subst e
       have : j < listed.size := by omega
       simp [Array.getD, this] at hj
      rw [zae (Ne.symm hji)] at hj; exact (List.mem_erase_of_ne hji).2 (hin j hj)
     .intro j hj
      have hji : j ≠ i := fun e => by
       subst e
       have : j < listed.size := by omega
       simp [Array.getD, this] at hj
      rw [zae (Ne.symm hji)] at hj
      have hjl : j < listed.size := by
       by_cases hl : j < listed.size
       .exact hl
       .simp [Array.getD, hl] at hj
      refine ⟨hji, Classical.byContradiction fun hx => ?_⟩
      have := hall j (by omega) hji hx
      rw [<- zdq hjl, hj] at this
      cases this
     .intro j hj hjs hl
      rw [zae (Ne.symm hjs)] at hl; exact ⟨w, hφ j hj hjs hl⟩
    .obtain ⟨d, hp⟩ := hmemD i h1 his
     have hws : waitsB ops i s = false := by
      cases hw : waitsB ops i s with
      | false => rfl
      | true =>
       unfold waitsB at hw
       rw [ho] at hw
       simp only [Option.map_some, Option.getD_some, List.any_eq_true, Bool.and_eq_true, Nat.beq_eq] at hw
       obtain ⟨e, he, hb, rfl⟩ := hw; have hl := h3 e he hb; rw [<- zdq (by omega), hns] at hl
       cases hl
     have hst := step _ hp hws u w hg (fun o' ho' e he hb => by
      obtain rfl := Option.some.inj (ho'.symm.trans ho); have hl := h3 e he hb
      have hlt : e.on < listed.size := by
       by_cases hl2 : e.on < listed.size
       .exact hl2
       .simp [Array.getD, hl2] at hl
      have hes : e.on ≠ s := fun e2 => by
       rw [e2] at hl; rw [<- zdq (by omega), hns] at hl
       cases hl
      refine hφ e.on (by omega) hes ?_
      rw [zdq hlt]; exact hl)
     obtain ⟨hd3, hd5⟩ := hslot _ hp o ho; have hst2 := zcq (R := fun v w' => φ i v w' ∧ G w' ∧ Below w.heap.size w w') ho hd3 (by rw [zcl]; exact hd5) hst
     refine wpOp_mono ?_ hst2
     rintro a' w' ⟨v, rfl, hv, hg', hb'⟩
     rw [zde u i d v D a hnd1 hD2 hp]
     refine ih _ w' (upd u i v) (L.erase i) (by simpa using hs) ?_ ?_ (by rw [zae his]; exact hns) hancn hg' ?_
     .rw [List.length_erase_of_mem (hin i h2)]
      omega
     .intro j hj
      have hji : j ≠ i := fun e => by
       subst e
       have : j < listed.size := by omega
       simp [Array.getD, this] at hj
      rw [zae (Ne.symm hji)] at hj; exact (List.mem_erase_of_ne hji).2 (hin j hj)
     .intro j hj hjs hl
      by_cases hji : j = i
      .subst hji
       simpa [upd] using hv
      .have e1 : upd u i v j = u j := by simp [upd, hji]
       rw [e1]; rw [zae (Ne.symm hji)] at hl; exact hmono j _ w w' (hφ j hj hjs hl) hb'
 have hu : ∃ u : Nat -> Value, puts D a u = a := by
  refine ⟨fun i => ((D.find? fun p => p.1 == i).map fun p => a.tmps.getD p.2 undef).getD undef, zdk _ _ _ fun p hp => ?_⟩
  have : D.find? (fun q => q.1 == p.1) = some p := by
   clear fin step stepX stepS hD2 hD1 hD3 hD4 keyA keyB hmemD hltD hslot
   induction D with
   | nil => cases hp
   | cons q D ih =>
    rw [List.map_cons, List.nodup_cons] at hnd1
    rcases List.mem_cons.1 hp with rfl | hp
    .simp
    .have hne : (q.1 == p.1) = false := by
      rw [beq_eq_false_iff_ne]; intro e; exact hnd1.1 (List.mem_map.2 ⟨p, hp, e.symm⟩)
     rw [List.find?_cons, hne]
     exact ih hnd1.2 hp
  simp only [this, Option.map_some, Option.getD_some]
 obtain ⟨u, hu⟩ := hu
 have hfF : ∀ i, (Array.replicate ops.size false).getD i false = false := fun i => by
  by_cases h : i < ops.size <;> simp [Array.getD, h]
 have := keyA ops.size (Array.replicate ops.size false) w.drew u (List.range ops.size) (by simp) (by simp) (fun i hi => by
  rw [List.mem_range]
  by_cases hl : i < ops.size
  .exact hl
  .simp [Array.getD, hl] at hi) (by simp [Array.getD, hsz]) (fun i o _ hl => by rw [hfF] at hl; cases hl) hG (fun i hi _ hl => by
  simp [Array.getD, hi] at hl)
 rw [hu] at this
 exact this
end
end
section
open Go.RowKit
section
variable {P : Program} {o : Oper} {A : Act} {wx : World} {K : Act -> World -> Prop} {Q : Exit -> Act -> World -> Prop} {φ : Value -> World -> Prop} {G : World -> Prop}
theorem zfg (a : Act) (d : Option Nat) (v : Value) : (a.put d v).defers = a.defers := by cases d <;> rfl
theorem opLoadK {g : Nat} {t : TypeId} {l : List Value} (h : Row wx g t l) (ty : TypeId) {n : Nat} (hf : Fits P ty n) (hl : l.length = n) (d : Nat) (hd : o.dst = some d) (hs : d < A.tmps.size)
  (hK : ∀ a' w', (a'.defers = A.defers ∧ φ (a'.tmps.getD d undef) w' ∧ G w' ∧ Below wx.heap.size wx w') -> K a' w')
  (x : Operand) (hop : o.op = .load ty x) (hx : A.eval x = .pointer (some ⟨g, 0, none⟩)) (hφ : φ (.agg l.toArray) wx) (hG : G wx) : o.wp P A wx K Q := by
 obtain ⟨d', hu, hd'⟩ := hf.row
 refine wp_load_row ty x hop g hx t l.toArray (0, 0) d' h hu (by cases d' <;> simp_all) (by simpa [hl] using hf.size) (hK _ _ ⟨zfg _ _ _, ?_, hG, zb⟩)
 rw [hd, zgs A d _ hs]
 exact hφ
theorem opLoadRK {g i : Nat} {l : List Value} (h : wx.rangeAt g i l) (ty : TypeId) {n : Nat} (hf : Fits P ty n) (hl : l.length = n) (d : Nat) (hd : o.dst = some d) (hs : d < A.tmps.size)
  (hK : ∀ a' w', (a'.defers = A.defers ∧ φ (a'.tmps.getD d undef) w' ∧ G w' ∧ Below wx.heap.size wx w') -> K a' w')
  (x : Operand) (hop : o.op = .load ty x) (hx : A.eval x = .pointer (some ⟨g, i, none⟩)) (hφ : φ (.agg l.toArray) wx) (hG : G wx) : o.wp P A wx K Q := by
 obtain ⟨d', hu, hd'⟩ := hf.row
 refine wp_load_mid ty x hop g i hx l d' h hu hd' (by rw [hl]; exact hf.size) (hK _ _ ⟨zfg _ _ _, ?_, hG, zb⟩)
 rw [hd, zgs A d _ hs]
 exact hφ
theorem opStoreK {H : World -> Prop} {g : Nat} {t : TypeId} {l : List Value} (h : Row wx g t l) (ty : TypeId) (m : List Value) {n : Nat} (hf : Fits P ty n) (hl : l.length = n) (hm : m.length = n) (h1 : m.all (·.oneCell') = true)
  (hK : ∀ a' w', (a'.defers = A.defers ∧ H w') -> K a' w')
  (x y : Operand) (hop : o.op = .store ty x y) (hx : A.eval x = .pointer (some ⟨g, 0, none⟩)) (hy : A.eval y = .agg m.toArray)
  (hH : ∀ w', Row w' g t m -> Only g wx w' -> w'.heap.size = wx.heap.size -> H w') : o.wp P A wx K Q :=
 wp_store_row ty x y hop g m.toArray hx hy t l.toArray h (by simpa [hm] using hf.size) (by simp [hl, hm]) (by simpa using h1)
  (hK _ _ ⟨zfg _ _ _, hH _ (h.put m) ((Only.refl g wx).putRow g _ (Or.inl rfl)) (by simp)⟩)
theorem wpLoadRK {ops : Array Oper} {rest : List Oper} {o : Oper} {a : Act} {w : World} {Q : Exit -> Act -> World -> Prop} {g i : Nat} {y : List Value} (h : w.rangeAt g i y) (ty : TypeId) {n : Nat} (hf : Fits P ty n) (hy : y.length = n)
  (ho : loadOf o a = some (ty, .pointer (some ⟨g, i, none⟩))) (k : wpList P ops Q rest (a.put o.dst (.agg y.toArray)) w) : wpList P ops Q (o :: rest) a w := by
 obtain ⟨hg, p, ho, hp⟩ := zej ho
 obtain ⟨d, hu, hd⟩ := hf.row
 exact wpList_load_mid hg ty p ho g i hp y d h hu hd (by rw [hy]; exact hf.size) k
theorem zqe (v : Value) (m n : Nat) (hm : 0 < m) : madeCells (List.replicate m v).toArray n = (List.replicate n v).toArray := by
 apply Array.ext
 .simp [madeCells]
 .intro i h1 h2
  simp [madeCells, Nat.mod_lt _ hm]
theorem wpMakeS {ops : Array Oper} {rest : List Oper} {o : Oper} {a : Act} {w : World} {Q : Exit -> Act -> World -> Prop} (T e : TypeId) (v : Value) (s n : Nat) (hT : P.underlying T = some (.slice e)) (hz : (P.info? e).map (fun i => (i.zero, i.size)) = some (some (.agg (List.replicate s v).toArray), s)) (hb : ((P.info? e).map fun i => decide (i.bytes <= 4096)) = some true) (hs : 0 < s)
  (hn : n <= 1000000) (ho : makeOf o a = some (T, .int .i64 (n : Int), .int .i64 (n : Int)))
  (k : ∀ w', Row w' w.heap.size e (List.replicate (n * s) v) -> Below w.heap.size w w' -> w'.heap.size = w.heap.size + 1 -> wpList P ops Q rest (a.put o.dst (.slice (some ⟨w.heap.size, 0, none⟩) n n)) w') : wpList P ops Q (o :: rest) a w := by
 obtain ⟨hg, x, y, hop, hx, hy⟩ := zfo ho
 cases hq : P.info? e with
 | none => rw [hq] at hz; cases hz
 | some i =>
  rw [hq] at hz hb
  simp only [Option.map_some, Option.some.injEq, Prod.mk.injEq] at hz
  simp only [Option.map_some, Option.some.injEq, decide_eq_true_eq] at hb
  have hbb : (i.bytes : Int) * (n : Int) <= 281474976710656 := by
   have h1 : i.bytes * n <= 4096 * 1000000 := Nat.mul_le_mul hb hn
   have h2 : ((i.bytes * n : Nat) : Int) <= 281474976710656 := by omega
   rwa [Int.natCast_mul] at h2
  have hr := run_make (P := P) w T e i _ hT hq hz.1 .i64 .i64 (n : Int) (n : Int) (by omega) (by omega) hbb (by omega)
  rw [Int.toNat_natCast, hz.2] at hr
  have hm : madeCells (Value.agg (List.replicate s v).toArray).cells (n * s) = (List.replicate (n * s) v).toArray := zqe v s (n * s) hs
  rw [hm] at hr
  refine wpList_plain hg fun K hK => ?_
  unfold Oper.wp execOp
  simp only [hop, hx, hy, Sem.run_bind, hr, Result.andThen_ok]
  exact hK _ _ (k _ (Row.new w e _) ((zb).alloc (Nat.le_refl _) _) (by simp))
end
end
section
open Go.RowKit GfMath
def u8s (l : List Nat) : List Value := l.map fun x : Nat => .int .u8 (x : Int)
theorem zaf (l : List Nat) : (u8s l).length = l.length := by simp [u8s]
theorem zbs (l : List Nat) (j : Nat) (h : j < l.length) : (u8s l)[j]? = some (.int .u8 (l[j] : Int)) := by simp [u8s, h]
theorem zco (l : List Nat) (j : Nat) (x : Nat) : (u8s l).set j (.int .u8 (x : Int)) = u8s (l.set j x) := by simp [u8s, List.map_set]
theorem zgl (l m : List Nat) : u8s (l ++ m) = u8s l ++ u8s m := by simp [u8s]
theorem zqy (l : List Nat) : (u8s l).all (·.oneCell') = true := by simp [u8s, Value.oneCell']
theorem zbjj (p : Nat) (w : World) (hp : p < 256) :
  Calls Tryz.prog 131 #[.int .u8 (p : Int)] w fun e w' => e = .returned (.int .u8 (xt p : Int)) ∧ w = w' := by
 have ha : bits .and .u8 (p : Int) 128 = ((p &&& 128 : Nat) : Int) := u8_and_nat p 128 hp (by omega)
 have hx : xt p = if p &&& 128 = 0 then p * 2 % 256 else (p * 2 % 256) ^^^ 29 := rfl
 by_cases h0 : p &&& 128 = 0
 .rw [if_pos h0] at hx
  have hb : ((p &&& 128 : Nat) : Int) = 0 := by omega
  rw [hb] at ha
  have HX := zh hx
  clear hx hb
  go_enter Tryz.func131, Tryz.ntmps131
  go_wp2
  go_ret
  exact ⟨by rw [HX.out]; simp, rfl⟩
 .rw [if_neg h0] at hx
  obtain ⟨y, hy⟩ : ∃ y : Nat, (p &&& 128) = y := ⟨_, rfl⟩
  rw [hy] at ha h0
  have hb : ¬ (y : Int) = 0 := by omega
  have hz : bits .xor .u8 ((p : Int) * 2 % 256) 29 = (((p * 2 % 256) ^^^ 29 : Nat) : Int) := by
   have := u8_xor_nat (p * 2 % 256) 29 (Nat.mod_lt _ (by omega)) (by omega)
   simpa using this
  have HX := zh hx
  have HZ := zh hz
  clear hx hz
  go_enter Tryz.func131, Tryz.ntmps131
  go_wp2
  go_ret
  exact ⟨by rw [HX.out]; exact zaz HZ.out, rfl⟩
def Pws (P : List Nat) (n : Nat) : Prop := P.length = 510 ∧ ∀ i, i < n -> P[i]? = some (ex i) ∧ P[i + 255]? = some (ex i)
theorem Pws.next {P : List Nat} {n : Nat} (h : Pws P n) (hn : n < 255) : Pws ((P.set n (ex n)).set (n + 255) (ex n)) (n + 1) := by
 obtain ⟨hl, hp⟩ := h
 refine ⟨by simp [hl], fun i hi => ?_⟩
 rw [List.getElem?_set, List.getElem?_set, List.getElem?_set, List.getElem?_set]
 by_cases e : i = n
 .subst e
  simp [hl]
  omega
 .have h1 := hp i (by omega)
  rw [if_neg (by omega), if_neg (by omega), if_neg (by omega), if_neg (by omega)]
  exact h1
theorem zbig (b : Nat) (P0 : List Nat) (w : World) (hP : P0.length = 510) (hr : Row w b 165 (u8s P0 ++ u8s (lgs 0))) :
  Calls Tryz.prog 99 #[.pointer (some ⟨b, 0, none⟩)] w fun e w' => e = .returned (.tuple #[]) ∧ (∃ P, Pws P 255 ∧ Row w' b 165 (u8s P ++ u8s (lgs 255))) ∧ Only b w w' := by
 have HR := zh hr
 clear hr
 go_enter Tryz.func99, Tryz.ntmps99
 go_wp2
 go_loopw [2, 4] (fun p i wr => ∃ n : Nat, n <= 255 ∧ i = .int .i64 n ∧ p = .int .u8 (ex n : Int) ∧ (∃ P, Pws P n ∧ Row wr b 165 (u8s P ++ u8s (lgs n))) ∧ Only b w wr) (fun _ i _ => 255 - (intOf i).toNat)
 case atStart => exact ⟨0, by omega, rfl, rfl, ⟨P0, ⟨hP, fun i hi => absurd hi (by omega)⟩, HR.out⟩, Only.refl _ _⟩
 case round =>
  clear HR hP
  obtain ⟨n, hn, rfl, rfl, ⟨P, hPn, hrow⟩, ho⟩ := hrel
  by_cases hlt : n < 255
  .have hPl := hPn.1
   have hp := ex_lt n
   have hst : ex (n + 1) = xt (ex n) := rfl
   have hls : lgs (n + 1) = (lgs n).set (ex n) n := rfl
   have hln := zje n; obtain ⟨x, hx⟩ : ∃ x, ex n = x := ⟨_, rfl⟩; have hPx := hPn.next hlt; rw [hx] at hPx hp hst hls; obtain ⟨L, hL⟩ : ∃ L, lgs n = L := ⟨_, rfl⟩; rw [hL] at hln hls hrow; obtain ⟨u1, hu1⟩ : ∃ u, wr.cell? ⟨b, n, none⟩ = some u := ⟨_, by rw [hrow.cell, List.getElem?_append_left (by rw [zaf]; omega), zbs _ _ (by omega)]⟩
   obtain ⟨u2, hu2⟩ : ∃ u, wr.cell? ⟨b, n + 255, none⟩ = some u := ⟨_, by rw [hrow.cell, List.getElem?_append_left (by rw [zaf]; omega), zbs _ _ (by omega)]⟩
   have hf1 := hrow.frozen n; have hf2 := hrow.frozen (n + 255); rw [hx]; have H1 := zh hPx; have H2 := zh hst; have H3 := zh hls; have H4 := zh hln; have HR := zh hrow; have HO := zh ho; have HPL := zh hPl
   have hn1 : (n : Int) < 255 := by omega
   have hn0 : 0 <= (n : Int) := by omega
   have hn5 : (n : Int) < 510 := by omega
   have hn6 : (n : Int) + 255 < 510 := by omega
   clear hPx hst hls hln hrow ho hPn hL hx hPl; go_wp2
   go_region
   have R2 : Hid (Row (((wr.setCell ⟨b, n, none⟩ (.int .u8 (x : Int))).setCell ⟨b, n + 255, none⟩ (.int .u8 (x : Int))).drew) b 165 (u8s ((P.set n x).set (n + 255) x) ++ u8s L)) := zh (by
    have h := (HR.out.set n (.int .u8 (x : Int))).set (n + 255) (.int .u8 (x : Int)); rw [List.set_append_left _ _ (by rw [zaf, HPL.out]; omega), zco, List.set_append_left _ _ (by rw [zaf, List.length_set, HPL.out]; omega), zco] at h
    exact h.drew)
   have O2 : Hid (Only b w (((wr.setCell ⟨b, n, none⟩ (.int .u8 (x : Int))).setCell ⟨b, n + 255, none⟩ (.int .u8 (x : Int))).drew)) := zh ((HO.out.setCell ⟨b, n, none⟩ _ (Or.inl rfl)).setCell ⟨b, n + 255, none⟩ _ (Or.inl rfl)).drew
   generalize ((wr.setCell ⟨b, n, none⟩ (.int .u8 (x : Int))).setCell ⟨b, n + 255, none⟩ (.int .u8 (x : Int))).drew = W2 at *; clear hu1 hu2 hf1 hf2 HR HO
   have hl2 : ((P.set n x).set (n + 255) x).length = 510 := by rw [List.length_set, List.length_set, HPL.out]
   have e5 : (Int.toNat (x : Int)) = x := rfl
   obtain ⟨u3, hu3⟩ : ∃ u, W2.cell? ⟨b, 510 + x, none⟩ = some u := ⟨_, by rw [R2.out.cell, List.getElem?_append_right (by rw [zaf, hl2]; omega), zaf, hl2, zbs _ _ (by rw [H4.out]; omega)]⟩
   have hf3 := R2.out.frozen (510 + x)
   have hx8 : (x : Int) < 256 := by omega
   have hx0 : 0 <= (x : Int) := by omega
   have HL2 := zh hl2; clear hl2 e5
   go_wp2_with (go_at_call 131; refine (zbjj x _ hp).mono ?_; rintro e w1 ⟨rfl, rfl⟩)
   case roundEnd =>
    have R3 := R2.out.set (510 + x) (.int .u8 (n : Int)); have hl2 := HL2.out; rw [List.set_append_right _ _ (by rw [zaf, hl2]; omega), zaf, hl2, show 510 + x - 510 = x by omega, zco] at R3
    exact ⟨⟨n + 1, by omega, by go_num, by rw [H2.out], ⟨_, H1.out, by rw [H3.out]; exact R3⟩, O2.out.setCell ⟨b, 510 + x, none⟩ _ (Or.inl rfl)⟩, by simp [intOf]; omega⟩
  .have ek : n = 255 := by omega
   subst ek; have HR := zh hrow; have HO := zh ho; have HP := zh hPn; clear hrow ho hPn; go_wp2
   go_end0
   exact ⟨rfl, ⟨P, HP.out, HR.out⟩, HO.out⟩
def Fld (w : World) (b : Nat) : Prop := ∃ P, Pws P 255 ∧ Row w b 165 (u8s P ++ u8s (lgs 255))
theorem Fld.lt {w : World} {b : Nat} (h : Fld w b) : b < w.heap.size := by
 obtain ⟨P, _, hr⟩ := h
 exact hr.lt
theorem Fld.pw {w : World} {b i : Nat} (h : Fld w b) (hi : i < 510) : w.cell? ⟨b, i, none⟩ = some (.int .u8 (ex i : Int)) := by
 obtain ⟨P, ⟨hl, hp⟩, hr⟩ := h
 have hg : P[i]? = some (ex i) := by
  by_cases h5 : i < 255
  .exact (hp i h5).1
  .have h2 := (hp (i - 255) (by omega)).2
   rw [show i - 255 + 255 = i by omega] at h2
   rw [h2, zbax (m := i - 255) (n := i) (by omega)]
 rw [hr.cell, List.getElem?_append_left (by rw [zaf]; omega), u8s, List.getElem?_map, hg]
 rfl
theorem Fld.lg {w : World} {b a : Nat} (h : Fld w b) (ha : a < 256) : w.cell? ⟨b, 510 + a, none⟩ = some (.int .u8 (lg a : Int)) := by
 obtain ⟨P, ⟨hl, hp⟩, hr⟩ := h
 rw [hr.cell, List.getElem?_append_right (by rw [zaf]; omega), zaf, hl, show 510 + a - 510 = a by omega, u8s, List.getElem?_map, zbmg a ha]
 rfl
theorem Fld.below {w w' : World} {B b : Nat} (h : Fld w b) (hb : Below B w w') (hB : b < B) : Fld w' b := by
 obtain ⟨P, hp, hr⟩ := h
 exact ⟨P, hp, hr.below hb hB⟩
theorem Fld.step {w w' : World} {b : Nat} (h : Fld w b) (hb : Below w.heap.size w w') : Fld w' b := h.below hb h.lt
theorem Fld.only {w w' : World} {b g : Nat} (h : Fld w b) (ho : Only g w w') (hne : b ≠ g) : Fld w' b := by
 obtain ⟨P, hp, hr⟩ := h
 exact ⟨P, hp, hr.only ho hne⟩
def fld0 : List Value := u8s (List.replicate 510 0) ++ u8s (lgs 0)
theorem zbdf : Tryz.prog.built 165 [] = some fld0.toArray := by kernel_rfl
theorem zber (w : World) :
  Calls Tryz.prog 63 #[] w fun e w' => e = .returned (.pointer (some ⟨w.heap.size, 0, none⟩)) ∧ Fld w' w.heap.size ∧ Below w.heap.size w w' := by
 obtain ⟨D, hD⟩ : ∃ D, D = fld0 := ⟨_, rfl⟩
 have HB : Hid (Tryz.prog.built 165 [] = some D.toArray) := zh (by rw [hD]; exact zbdf)
 have HD := zh hD
 clear hD
 go_enter Tryz.func63, Tryz.ntmps63
 go_wp2_with (first
  | ((with_reducible refine wpBuildZeroK D 165 HB.out ?_ ?_); rfl)
  | ((with_reducible refine wpBoxK D 165 ?_ ?_); rfl; intro u0 r0 b0 s0; have R0 := zh r0; have B0 := zh b0; have S0 := zh s0; clear r0 b0 s0)
  | (go_at_call 99; refine (zbig _ (List.replicate 510 0) _ List.length_replicate (by have := R0.out; rw [HD.out] at this; exact this)).mono ?_; rintro e u1 ⟨rfl, f1, o1⟩; have F1 := zh f1; have O1 := zh o1; clear f1 o1))
 go_ret
 exact ⟨rfl, F1.out, B0.out.trans (O1.out.below (Nat.le_refl _) B0.out.size)⟩
theorem zix (b : Nat) (w : World) (hf : Fld w b) :
  Calls Tryz.prog 152 #[.pointer (some ⟨b, 0, none⟩)] w fun e w' => e = .returned (.pointer (some ⟨b, 0, none⟩)) ∧ w = w' := by
 have hc := hf.pw (i := 0) (by omega)
 have h1 : ex 0 = 1 := rfl
 rw [h1] at hc
 clear hf h1
 go_enter Tryz.func152, Tryz.ntmps152
 go_wp2
 go_ret
 exact ⟨rfl, rfl⟩
theorem zbgw (b x y : Nat) (w : World) (hf : Fld w b) (hx : x < 256) (hy : y < 256) :
  Calls Tryz.prog 171 #[.pointer (some ⟨b, 0, none⟩), .int .u8 (x : Int), .int .u8 (y : Int)] w fun e w' => e = .returned (.int .u8 (gm x y : Int)) ∧ Below w.heap.size w w' := by
 by_cases hx0 : x = 0
 .have hi : (x : Int) = 0 := by omega
  have hg : gm x y = 0 := by rw [hx0, zac]
  have HG := zh hg
  clear hg hx0
  go_enter Tryz.func171, Tryz.ntmps171
  go_wp2
  go_ret
  exact ⟨by rw [HG.out]; rfl, zb⟩
 .by_cases hy0 : y = 0
  .have hi : (y : Int) = 0 := by omega
   have hi2 : ¬ (x : Int) = 0 := by omega
   have hg : gm x y = 0 := by rw [hy0, zag]
   have HG := zh hg; clear hg hx0 hy0
   go_enter Tryz.func171, Tryz.ntmps171
   go_wp2; go_ret; exact ⟨by rw [HG.out]; rfl, zb⟩
  .have hi : ¬ (y : Int) = 0 := by omega
   have hi2 : ¬ (x : Int) = 0 := by omega
   have hg := zzn hx hy hx0 hy0; have hlx := zjd x; have hly := zjd y; have c1 := hf.lg hx; have c2 := hf.lg hy; obtain ⟨p, hp⟩ : ∃ p, lg x = p := ⟨_, rfl⟩; obtain ⟨q, hq⟩ : ∃ q, lg y = q := ⟨_, rfl⟩; rw [hp] at hlx c1 hg; rw [hq] at hly c2 hg; have c3 := hf.pw (i := p + q) (by omega)
   have HG := zh hg
   have hxb : (x : Int) < 256 := by omega
   have hyb : (y : Int) < 256 := by omega
   have hxn : 0 <= (x : Int) := by omega
   have hyn : 0 <= (y : Int) := by omega
   have hb1 : (p : Int) + q < 510 := by omega
   have hb2 : 0 <= (p : Int) + q := by omega
   have hb3 : (p : Int) < 255 := by omega
   have hb4 : (q : Int) < 255 := by omega
   clear hg hf hp hq hx0 hy0
   go_enter Tryz.func171, Tryz.ntmps171
   go_wp2
   .exfalso
    rename_i h
    rcases h with h | h <;> (simp at h; omega)
   .go_quiet (fail)
    go_wp2; go_ret; exact ⟨by rw [HG.out]; rfl, (zb).drewN _⟩
def Bys (l : List Nat) : Prop := ∀ x ∈ l, x < 256
theorem Bys.get {l : List Nat} (h : Bys l) (j : Nat) (hj : j < l.length) : l[j] < 256 := h _ (List.getElem_mem hj)
theorem Bys.take {l : List Nat} (h : Bys l) (k : Nat) : Bys (l.take k) := fun x hx => h x (List.mem_of_mem_take hx)
theorem zzs (b : Nat) (a : Option Addr) (cap : Nat) (l : List Nat) (w : World) (hf : Fld w b) (hb : Bys l) (hl : l.length <= 140737488355328) (hr : Lies w w.heap.size a (u8s l)) :
  Calls Tryz.prog 151 #[.pointer (some ⟨b, 0, none⟩), .slice a l.length cap] w fun e w' => e = .returned (.int .u8 (prod l : Int)) ∧ Below w.heap.size w w' := by
 have HF := zh hf
 have HR := zh hr
 have HB := zh hb
 clear hf hr hb
 go_enter Tryz.func151, Tryz.ntmps151
 go_wp2_with (go_at_call 152; refine (zix b _ HF.out).mono ?_; rintro e w1 ⟨rfl, rfl⟩)
 go_loopw [5, 14] (fun p i wr => ∃ k : Nat, k <= l.length ∧ i = .int .i64 k ∧ p = .int .u8 (prod (l.take k) : Int) ∧ Fld wr b ∧ Lies wr wr.heap.size a (u8s l) ∧ Below w.heap.size w wr) (fun _ i _ => l.length - (intOf i).toNat)
 case atStart => exact ⟨0, Nat.zero_le _, rfl, rfl, HF.out, HR.out, zb⟩
 case round =>
  clear HF HR
  obtain ⟨k, hk, rfl, rfl, hf, hr, hbw⟩ := hrel
  by_cases hlt : k < l.length
  .obtain ⟨b2, off, rfl, hbb, hc⟩ := hr (by rw [zaf]; omega)
   have hcell : wr.cell? ⟨b2, off + k, none⟩ = some (.int .u8 (l[k] : Int)) := hc k _ (zbs l k hlt)
   have hx := HB.out.get k hlt
   have hp : prod (l.take k) < 256 := zbms _ (HB.out.take k)
   have hst : prod (l.take (k + 1)) = gm (prod (l.take k)) l[k] := by rw [zbq l k hlt, zbfy]
   obtain ⟨x, hxe⟩ : ∃ x, l[k] = x := ⟨_, rfl⟩; obtain ⟨p, hpe⟩ : ∃ p, prod (l.take k) = p := ⟨_, rfl⟩; rw [hxe] at hcell hx hst; rw [hpe] at hp hst; rw [hpe]; have HF := zh hf
   have HR : Hid (Lies wr wr.heap.size (some ⟨b2, off, none⟩) (u8s l)) := zh fun _ => ⟨b2, off, rfl, hbb, hc⟩
   have HW := zh hbw; have HS := zh hst
   have hk1 : (k : Int) < l.length := by omega
   clear hf hr hbw hst hc hxe hpe
   go_wp2_with (go_at_call 171; refine (zbgw b p x _ HF.out hp hx).mono ?_; rintro e w1 ⟨rfl, b1⟩; have B1 := zh b1; clear b1)
   go_roundw
   case rel => exact ⟨k + 1, by omega, by go_num, by rw [HS.out], HF.out.step B1.out, HR.out.step B1.out, HW.out.next B1.out⟩
   case measure => simp [intOf]; omega
  .have ek : k = l.length := by omega
   have HP : Hid (prod (l.take k) = prod l) := zh (by rw [ek, List.take_of_length_le (Nat.le_refl _)])
   have HW := zh hbw; subst ek; clear hf hr hbw; go_wp2; go_ret; exact ⟨by rw [<- HP.out]; rfl, HW.out⟩
theorem zyw (b : Nat) (a : Option Addr) (cap : Nat) (l : List Nat) (w : World) (hb : Bys l) (hl : l.length <= 140737488355328) (hr : Lies w w.heap.size a (u8s l)) :
  Calls Tryz.prog 150 #[.pointer (some ⟨b, 0, none⟩), .slice a l.length cap] w fun e w' => e = .returned (.int .u8 (sum l : Int)) ∧ w = w' := by
 have HB := zh hb
 clear hb
 go_enter Tryz.func150, Tryz.ntmps150
 go_wp2
 go_loop [5, 12] (fun p i => ∃ k : Nat, k <= l.length ∧ i = .int .i64 k ∧ p = .int .u8 (sum (l.take k) : Int)) (fun _ i => l.length - (intOf i).toNat)
 case atStart => exact ⟨0, Nat.zero_le _, rfl, rfl⟩
 case round =>
  obtain ⟨k, hk, rfl, rfl⟩ := hrel
  by_cases hlt : k < l.length
  .obtain ⟨b2, off, rfl, hbb, hc⟩ := hr (by rw [zaf]; omega)
   have hcell : w.cell? ⟨b2, off + k, none⟩ = some (.int .u8 (l[k] : Int)) := hc k _ (zbs l k hlt)
   have hx := HB.out.get k hlt
   have hp : sum (l.take k) < 256 := zboi _ (HB.out.take k)
   have hst : sum (l.take (k + 1)) = sum (l.take k) ^^^ l[k] := by rw [zbq l k hlt, zbkh]
   have ha := u8_xor_nat _ _ hp hx; rw [<- hst] at ha; obtain ⟨x, hxe⟩ : ∃ x, l[k] = x := ⟨_, rfl⟩; obtain ⟨p, hpe⟩ : ∃ p, sum (l.take k) = p := ⟨_, rfl⟩; obtain ⟨q, hqe⟩ : ∃ q, sum (l.take (k + 1)) = q := ⟨_, rfl⟩; rw [hxe] at hcell ha; rw [hpe, hqe] at ha; rw [hpe]; have HQ := zh hqe
   have hk1 : (k : Int) < l.length := by omega
   clear hr hst hc hxe hpe hp hx hqe; go_wp2
   go_round
   case rel => exact ⟨k + 1, by omega, by go_num, by rw [HQ.out]⟩
   case measure => simp [intOf]; omega
  .have ek : k = l.length := by omega
   have HP : Hid (sum (l.take k) = sum l) := zh (by rw [ek, List.take_of_length_le (Nat.le_refl _)])
   subst ek; clear hr; go_wp2; go_ret; exact ⟨by rw [<- HP.out]; rfl, rfl⟩
theorem zin (b : Nat) (n : Int) (w : World) (hf : Fld w b) :
  Calls Tryz.prog 130 #[.pointer (some ⟨b, 0, none⟩), .int .i64 n] w fun e w' => e = .returned (.int .u8 (exI n : Int)) ∧ Below w.heap.size w w' := by
 have hbd := zbad n
 have h1 : 0 <= n.tmod 255 + 255 := by omega
 have h2 : n.tmod 255 + 255 < 510 := by omega
 have h3 : ((n.tmod 255 + 255).toNat : Int) = n.tmod 255 + 255 := by omega
 have hc := hf.pw (i := (n.tmod 255 + 255).toNat) (by omega)
 rw [show ex (n.tmod 255 + 255).toNat = exI n from rfl] at hc
 obtain ⟨y, hy⟩ : ∃ y, exI n = y := ⟨_, rfl⟩
 have HF := zh hf
 rw [hy] at hc ⊢
 clear hf hy hbd
 go_enter Tryz.func130, Tryz.ntmps130
 go_wp2_with (go_at_call 152; refine (zix b _ HF.out).mono ?_; rintro e w1 ⟨rfl, rfl⟩)
 go_ret
 exact ⟨rfl, zb⟩
theorem zbiz (b : Nat) (w : World) :
  Calls Tryz.prog 186 #[.pointer (some ⟨b, 0, none⟩), .int .u8 0] w fun e w' => e = .returned (.tuple #[.int .i64 0, .bool false]) ∧ w = w' := by
 go_enter Tryz.func186, Tryz.ntmps186
 go_wp2
 go_ret2
 exact ⟨rfl, rfl⟩
theorem zbmh (b x : Nat) (w : World) (hf : Fld w b) (hx : x < 256) (h0 : x ≠ 0) :
  Calls Tryz.prog 186 #[.pointer (some ⟨b, 0, none⟩), .int .u8 (x : Int)] w fun e w' => e = .returned (.tuple #[.int .i64 (lg x : Int), .bool true]) ∧ w = w' := by
 have hc := hf.lg hx
 have hl := zjd x
 obtain ⟨y, hy⟩ : ∃ y, lg x = y := ⟨_, rfl⟩
 rw [hy] at hc hl ⊢
 have HF := zh hf
 have hi : ¬ (x : Int) = 0 := by omega
 have hi2 : (x : Int) < 256 := by omega
 have hi3 : 0 <= (x : Int) := by omega
 clear hf hy h0
 go_enter Tryz.func186, Tryz.ntmps186
 go_wp2_with (go_at_call 152; refine (zix b _ HF.out).mono ?_; rintro e w1 ⟨rfl, rfl⟩)
 go_ret2
 exact ⟨rfl, rfl⟩
theorem zuu (b : Nat) (w : World) :
  Calls Tryz.prog 179 #[.pointer (some ⟨b, 0, none⟩), .int .u8 0] w fun e w' => e = .returned (.tuple #[.int .u8 0, .bool false]) ∧ w = w' := by
 go_enter Tryz.func179, Tryz.ntmps179
 go_wp2_with (go_at_call 186; refine (zbiz b _).mono ?_; rintro e w1 ⟨rfl, rfl⟩)
 go_ret2
 exact ⟨rfl, rfl⟩
theorem zzp (b x : Nat) (w : World) (hf : Fld w b) (hx : x < 256) (h0 : x ≠ 0) :
  Calls Tryz.prog 179 #[.pointer (some ⟨b, 0, none⟩), .int .u8 (x : Int)] w fun e w' => e = .returned (.tuple #[.int .u8 (iv x : Int), .bool true]) ∧ Below w.heap.size w w' := by
 have HE : Hid (Calls Tryz.prog 130 #[.pointer (some ⟨b, 0, none⟩), .int .i64 (-(lg x : Int))] w fun e w' => e = .returned (.int .u8 (iv x : Int)) ∧ Below w.heap.size w w') := zh (by rw [<- zblt h0]; exact zin b _ w hf)
 have HL := zh (zbmh b x w hf hx h0)
 have hl := zjd x
 obtain ⟨y, hy⟩ : ∃ y, lg x = y := ⟨_, rfl⟩
 obtain ⟨z, hz⟩ : ∃ z, iv x = z := ⟨_, rfl⟩
 rw [hy] at HE HL hl
 rw [hz] at HE ⊢
 clear hy hz hf
 go_enter Tryz.func179, Tryz.ntmps179
 go_wp2_with (first
  | (go_at_call 186; refine HL.out.mono ?_; rintro e w1 ⟨rfl, rfl⟩)
  | (go_at_call 130; refine HE.out.mono ?_; rintro e w1 ⟨rfl, b1⟩; have B1 := zh b1; clear b1))
 go_ret2
 exact ⟨rfl, B1.out⟩
theorem zbhu (b x : Nat) (w : World) :
  Calls Tryz.prog 162 #[.pointer (some ⟨b, 0, none⟩), .int .u8 (x : Int), .int .u8 0] w fun e w' => e = .returned (.tuple #[.int .u8 0, .bool false]) ∧ w = w' := by
 go_enter Tryz.func162, Tryz.ntmps162
 go_wp2_with (go_at_call 179; refine (zuu b _).mono ?_; rintro e w1 ⟨rfl, rfl⟩)
 go_ret2
 exact ⟨rfl, rfl⟩
theorem zni {a b : Nat} (ha : a < 256) : prod [a, b] = gm a b := by
 simp [prod, zch ha]
theorem zqx (a b : Nat) : sum [a, b] = a ^^^ b := by simp [sum]
theorem zzc {a b : Nat} (ha : a < 256) (hb : b < 256) : Bys [a, b] := by intro x hx; simp at hx; omega
theorem zlu (b g cap x y : Nat) (w : World) (hf : Fld w b) (hx : x < 256) (hy : y < 256) (hr : Lies w w.heap.size (some ⟨g, 0, none⟩) (u8s [x, y])) :
  Calls Tryz.prog 151 #[.pointer (some ⟨b, 0, none⟩), .slice (some ⟨g, 0, none⟩) 2 cap] w fun e w' => e = .returned (.int .u8 (gm x y : Int)) ∧ Below w.heap.size w w' := by
 have h := zzs b (some ⟨g, 0, none⟩) cap [x, y] w hf (zzc hx hy) (by simp) hr
 rwa [zni hx] at h
theorem zpj (b g cap x y : Nat) (w : World) (hx : x < 256) (hy : y < 256) (hr : Lies w w.heap.size (some ⟨g, 0, none⟩) (u8s [x, y])) :
  Calls Tryz.prog 150 #[.pointer (some ⟨b, 0, none⟩), .slice (some ⟨g, 0, none⟩) 2 cap] w fun e w' => e = .returned (.int .u8 ((x ^^^ y : Nat) : Int)) ∧ w = w' := by
 have h := zyw b (some ⟨g, 0, none⟩) cap [x, y] w (zzc hx hy) (by simp) hr
 rwa [zqx] at h
theorem zjc (x y : Nat) (w : World) (t : TypeId) : Lies (w.alloc (.cells #[.int .u8 (x : Int), .int .u8 (y : Int)] t)) (w.alloc (.cells #[.int .u8 (x : Int), .int .u8 (y : Int)] t)).heap.size (some ⟨w.heap.size, 0, none⟩) (u8s [x, y]) := Lies.new _ w t
theorem zzj (b x y : Nat) (w : World) (hf : Fld w b) (hx : x < 256) (hy : y < 256) (h0 : y ≠ 0) :
  Calls Tryz.prog 162 #[.pointer (some ⟨b, 0, none⟩), .int .u8 (x : Int), .int .u8 (y : Int)] w fun e w' => e = .returned (.tuple #[.int .u8 (gm x (iv y) : Int), .bool true]) ∧ Below w.heap.size w w' := by
 have HI := zh (zzp b y w hf hy h0)
 have hz := zba y
 obtain ⟨z, hze⟩ : ∃ z, iv y = z := ⟨_, rfl⟩
 rw [hze] at HI hz ⊢
 have HF := zh hf
 clear hf hze
 go_enter Tryz.func162, Tryz.ntmps162
 go_wp2_with (first
  | (go_at_call 179; refine HI.out.mono ?_; rintro e w1 ⟨rfl, b1⟩; have B1 := zh b1; clear b1)
  | (go_at_call 151; refine (zlu b _ _ x z _ ((HF.out.step B1.out).step (zab _ _)) hx hz (zjc x z w1 _)).mono ?_; rintro e w2 ⟨rfl, b2⟩; have B2 := zh b2; clear b2))
 go_ret2
 exact ⟨rfl, (B1.out.next (zab _ _)).next B2.out⟩
theorem mul2 (b x y : Nat) (t : TypeId) (hx : x < 256) (hy : y < 256) (u : World) (hf : Fld u b) :
  Calls Tryz.prog 151 #[.pointer (some ⟨b, 0, none⟩), .slice (some ⟨u.heap.size, 0, none⟩) 2 2] (u.alloc (.cells #[.int .u8 (x : Int), .int .u8 (y : Int)] t)) fun e u' => e = .returned (.int .u8 (gm x y : Int)) ∧ Below u.heap.size u u' :=
 (zlu b _ 2 x y _ (hf.step (zab _ _)) hx hy (zjc x y u t)).mono fun _ _ h => ⟨h.1, (zab _ _).next h.2⟩
theorem add2 (b x y : Nat) (t : TypeId) (hx : x < 256) (hy : y < 256) (u : World) :
  Calls Tryz.prog 150 #[.pointer (some ⟨b, 0, none⟩), .slice (some ⟨u.heap.size, 0, none⟩) 2 2] (u.alloc (.cells #[.int .u8 (x : Int), .int .u8 (y : Int)] t)) fun e u' => e = .returned (.int .u8 ((x ^^^ y : Nat) : Int)) ∧ Below u.heap.size u u' :=
 (zpj b _ 2 x y _ hx hy (zjc x y u t)).mono fun _ u' h => ⟨h.1, by rw [<- h.2]; exact zab _ _⟩
end
section
open Go.RowKit GfMath PolyMath
theorem zmp (x : Nat) (w : World) :
  Calls Tryz.prog 184 #[.int .u8 (x : Int)] w fun e w' => e = .returned (.bool (decide (x ≠ 0))) ∧ w = w' := by
 by_cases h : x = 0
 .subst h
  go_enter Tryz.func184, Tryz.ntmps184
  go_wp2
  go_ret
  exact ⟨rfl, rfl⟩
 .have h1 : ((x : Int) != 0) = true := by simp; omega
  have h2 : ¬ (x : Int) = 0 := by omega
  have h3 : decide (x ≠ 0) = true := by simpa using h
  go_enter Tryz.func184, Tryz.ntmps184
  go_wp2
  go_ret
  exact ⟨zal h3.symm, rfl⟩
def firstOf (l : List Nat) : Int := if zs l < l.length then (zs l : Int) else -1
theorem zrn (a : Option Addr) (cap : Nat) (l : List Nat) (w : World) (hl : l.length <= 140737488355328) (hr : Lies w w.heap.size a (u8s l)) :
  Calls Tryz.prog 183 #[.slice a l.length cap, .func (.func 184) #[] #[]] w fun e w' => e = .returned (.int .i64 (firstOf l)) ∧ w = w' := by
 go_enter Tryz.func183, Tryz.ntmps183
 go_wp2
 go_loop [8] (fun i => ∃ k : Nat, k <= l.length ∧ i = .int .i64 k ∧ ∀ j, j < k -> sq l j = 0) (fun i => l.length - (intOf i).toNat)
 case atStart => exact ⟨0, Nat.zero_le _, rfl, fun j hj => absurd hj (by omega)⟩
 case round =>
  obtain ⟨k, hk, rfl, hz⟩ := hrel
  have HZ := zh hz
  clear hz
  by_cases hlt : k < l.length
  .obtain ⟨b2, off, rfl, hbb, hc⟩ := hr (by rw [zaf]; omega)
   have hcell : w.cell? ⟨b2, off + k, none⟩ = some (.int .u8 (sq l k : Int)) := by rw [zas l k hlt]; exact hc k _ (zbs l k hlt)
   obtain ⟨x, hx⟩ : ∃ x, sq l k = x := ⟨_, rfl⟩; rw [hx] at hcell
   have hk1 : (k : Int) < l.length := by omega
   by_cases h0 : x = 0
   .have HN : Hid (∀ u, Calls Tryz.prog 184 #[.int .u8 (x : Int)] u fun e w' => e = .returned (.bool false) ∧ u = w') := zh fun u => by have := zmp x u; rwa [decide_eq_false (by omega)] at this
    have HX : Hid (sq l k = 0) := zh (by rw [hx, h0])
    clear hr hc hx h0
    go_wp2_with (go_at_call 184; (with_reducible refine (HN.out _).mono ?_); rintro e w1 ⟨rfl, rfl⟩)
    go_round
    case rel => exact ⟨k + 1, by omega, by go_num, fun j hj => by
     by_cases e : j = k
     .rw [e]; exact HX.out
     .exact HZ.out j (by omega)⟩
    case measure => simp [intOf]; omega
   .have HN : Hid (∀ u, Calls Tryz.prog 184 #[.int .u8 (x : Int)] u fun e w' => e = .returned (.bool true) ∧ u = w') := zh fun u => by have := zmp x u; rwa [decide_eq_true (by omega)] at this
    have HX : Hid (firstOf l = (k : Int)) := zh (by
     have := zbcq l k HZ.out (by rw [hx]; exact h0)
     rw [firstOf, this, if_pos hlt])
    clear hr hc hx h0
    go_wp2_with (go_at_call 184; (with_reducible refine (HN.out _).mono ?_); rintro e w1 ⟨rfl, rfl⟩)
    go_ret; exact ⟨zaz HX.out.symm, rfl⟩
  .have HX : Hid (firstOf l = -1) := zh (by
    have := zxb l fun j hj => HZ.out j (by omega)
    rw [firstOf, this, if_neg (by omega)])
   clear hr; go_wp2; go_ret; exact ⟨zaz HX.out.symm, rfl⟩
theorem Lies.drop {w : World} {B : Nat} {b off : Nat} {xs : List Value} (h : Lies w B (some ⟨b, off, none⟩) xs) (k : Nat) : Lies w B (some ⟨b, off + k, none⟩) (xs.drop k) := by
 intro h0
 rw [List.length_drop] at h0
 obtain ⟨b', off', e, h1, h2⟩ := h (by omega)
 cases e
 refine ⟨b, off + k, rfl, h1, fun j u hj => ?_⟩
 rw [List.getElem?_drop] at hj
 have := h2 _ _ hj
 rwa [<- Nat.add_assoc] at this
def Reads (w : World) (v : Value) (l : List Nat) : Prop := ∃ a cap, v = .slice a l.length cap ∧ l.length <= cap ∧ Lies w w.heap.size a (u8s l)
theorem Reads.step {w w' : World} {v : Value} {l : List Nat} (h : Reads w v l) (hb : Below w.heap.size w w') : Reads w' v l := by
 obtain ⟨a, cap, h1, h2, h3⟩ := h
 exact ⟨a, cap, h1, h2, h3.step hb⟩
theorem Reads.nil (w : World) : Reads w (.slice none 0 0) [] := ⟨none, 0, rfl, Nat.le_refl _, Lies.nil _ _ _⟩
theorem zfb (a : Option Addr) (cap : Nat) (l : List Nat) (w : World) (hl : l.length <= 140737488355328) (hcap : l.length <= cap) (hr : Lies w w.heap.size a (u8s l)) :
  Calls Tryz.prog 165 #[.slice a l.length cap] w fun e w' => (∃ v, e = .returned v ∧ Reads w v (beh l)) ∧ w = w' := by
 have HI := zh (zrn a cap l w hl hr)
 have hz := zjt l
 by_cases hlt : zs l < l.length
 .obtain ⟨b2, off, rfl, hbb, hc⟩ := hr (by rw [zaf]; omega)
  have HR : Hid (Reads w (.slice (some ⟨b2, off + zs l, none⟩) (l.length - zs l) (cap - zs l)) (beh l)) := zh (by
   refine ⟨_, _, by rw [zcf], by rw [zcf]; omega, ?_⟩
   have h := (show Lies w w.heap.size (some ⟨b2, off, none⟩) (u8s l) from fun _ => ⟨b2, off, rfl, hbb, hc⟩).drop (zs l)
   rwa [show u8s (beh l) = (u8s l).drop (zs l) by rw [beh, u8s, u8s, List.map_drop]])
  have hf : firstOf l = (zs l : Int) := if_pos hlt
  rw [hf] at HI
  generalize zs l = z at *
  generalize beh l = m at *
  have hz0 : 0 <= (z : Int) := by omega
  have hz1 : (z : Int) <= l.length := by omega
  have hz2 : ¬ (z : Int) < 0 := by omega
  clear hf hr hc
  go_enter Tryz.func165, Tryz.ntmps165
  go_wp2_with (go_at_call 183; (with_reducible refine HI.out.mono ?_); rintro e w1 ⟨rfl, rfl⟩)
  go_ret
  exact ⟨⟨_, rfl, HR.out⟩, rfl⟩
 .have hf : firstOf l = -1 := if_neg hlt
  rw [hf] at HI
  have HB : Hid (beh l = []) := zh (List.eq_nil_of_length_eq_zero (by rw [zcf]; omega))
  clear hf hr
  go_enter Tryz.func165, Tryz.ntmps165
  go_wp2_with (go_at_call 183; (with_reducible refine HI.out.mono ?_); rintro e w1 ⟨rfl, rfl⟩)
  go_ret
  exact ⟨⟨_, rfl, by rw [HB.out]; exact Reads.nil _⟩, rfl⟩
theorem zbix (x : Nat) (w : World) :
  Calls Tryz.prog 129 #[.int .u8 (x : Int)] w fun e w' => e = .returned (.slice (some ⟨w.heap.size, 0, none⟩) 2 2) ∧ Lies w' w'.heap.size (some ⟨w.heap.size, 0, none⟩) (u8s [1, x]) ∧ Below w.heap.size w w' := by
 go_enter Tryz.func129, Tryz.ntmps129
 go_wp2
 go_ret
 exact ⟨rfl, zjc 1 x w _, zab _ _⟩
def cvj (A C : List Nat) (k j n : Nat) : Nat := cvk (sq A) (sq C) k n ^^^ if k <= n ∧ n - k < j then gm (sq A k) (sq C (n - k)) else 0
theorem ztz (A C : List Nat) (k n : Nat) : cvj A C k 0 n = cvk (sq A) (sq C) k n := by rw [cvj, if_neg (by omega), Nat.xor_zero]
theorem zty (A C : List Nat) (k n : Nat) : cvj A C k C.length n = cvk (sq A) (sq C) (k + 1) n := by
 rw [cvj, znd]
 congr 1
 by_cases h : k <= n
 .rw [if_pos h]
  by_cases h2 : n - k < C.length
  .rw [if_pos ⟨h, h2⟩]
  .rw [if_neg (by omega), zhi C _ (by omega), zag]
 .rw [if_neg h, if_neg (by omega)]
theorem zbhs (A C : List Nat) (N k j : Nat) : (tab N (cvj A C k j)).set (k + j) (cvj A C k j (k + j) ^^^ gm (sq A k) (sq C j)) = tab N (cvj A C k (j + 1)) := by
 rw [zdi]
 refine zap N fun n _ => ?_
 by_cases e : n = k + j
 .subst e
  rw [if_pos rfl, cvj, cvj, if_neg (by omega), if_pos (by omega), show k + j - k = j by omega, Nat.xor_zero]
 .rw [if_neg e, cvj, cvj]
  by_cases h : k <= n ∧ n - k < j
  .rw [if_pos h, if_pos (by omega)]
  .rw [if_neg h, if_neg (by omega)]
theorem zbdw {A C : List Nat} (hA : By A) (hC : By C) (k j n : Nat) : cvj A C k j n < 256 :=
 zbt (zko (fun i => hA.sq i) (fun i => hC.sq i) _ _) (by split; exact zbb (hA.sq _) (hC.sq _); omega)
theorem zyf (b : Nat) (a c : Option Addr) (ca cc : Nat) (A C : List Nat) (w : World) (hf : Fld w b) (hA : By A) (hC : By C) (hla : A.length <= 1000000) (hlc : C.length <= 1000000) (h0 : 0 < A.length) (h1 : 0 < C.length)
  (hr : Lies w w.heap.size a (u8s A)) (hs : Lies w w.heap.size c (u8s C)) :
  Calls Tryz.prog 128 #[.pointer (some ⟨b, 0, none⟩), .slice a A.length ca, .slice c C.length cc] w fun e w' => (∃ v, e = .returned v ∧ Reads w' v (pm A C)) ∧ Below w.heap.size w w' := by
 obtain ⟨L, hL⟩ : ∃ L, A.length + C.length - 1 = L := ⟨_, rfl⟩
 have hLi : (A.length : Int) + (C.length : Int) - 1 = (L : Int) := by omega
 have ha0 : ¬ (A.length : Int) = 0 := by omega
 have hc0 : ¬ (C.length : Int) = 0 := by omega
 have ha1 : ((A.length : Int) == 0) = false := beq_false_of_ne ha0
 have hc1 : ((C.length : Int) == 0) = false := beq_false_of_ne hc0
 have hL0 : 0 < L := by omega
 have hLb : L <= 2000000 := by omega
 have hLc : (L : Int) <= 2000000 := by omega
 have hpm : pm A C = tab L (cvk (sq A) (sq C) A.length) := by unfold pm; rw [if_neg (by omega), hL]
 obtain ⟨g, hg⟩ : ∃ g, g = w.heap.size := ⟨_, rfl⟩
 have HPM := zh hpm
 have HL := zh hL
 have HF := zh hf
 have HR := zh hr
 have HS := zh hs
 have HA := zh hA
 have HC := zh hC
 have HG := zh hg
 have HI8 : Hid ((Tryz.prog.info? 5).map (fun i => (i.zero, i.size, i.bytes)) = some (some (.int .u8 0), 1, 8) ∨ (Tryz.prog.info? 5).map (fun i => (i.zero, i.size, i.bytes)) = some (some (.int .u8 0), 1, 1)) := zh (Or.inr zbx)
 have HS1 : Hid ((Tryz.prog.info? 5).map (·.size) = some 1) := zh (by have h := zbx; cases hq : Tryz.prog.info? 5 with | none => rw [hq] at h; cases h | some i => rw [hq] at h; simp only [Option.map_some, Option.some.injEq, Prod.mk.injEq] at h; rw [Option.map_some, h.2.1])
 have HLL : Hid (L <= L) := zh (Nat.le_refl _)
 have HLM0 : Hid (L <= 1099511627776) := zh (by omega)
 have HZC : Hid ((Value.int .u8 0).cells = #[.int .u8 0]) := zh rfl
 clear hpm hL hf hr hs hA hC hg
 go_enter Tryz.func128, Tryz.ntmps128
 go_wp2_with (first
  | ((with_reducible refine wpMakeK 107 5 (.int .u8 0) L L Tryz.underlying107 HI8.out HZC.out HLL.out HLM0.out ?_ ?_); rfl; intro w1 r1 b1 s1; have R1 := zh r1; have B1 := zh b1; clear r1 b1 s1))
 have RG : Hid (Row w1 g 5 (u8s (tab L (cvk (sq A) (sq C) 0)))) := zh (by
  have h := R1.out
  rw [<- HG.out] at h
  have e : u8s (tab L (cvk (sq A) (sq C) 0)) = List.replicate L (.int .u8 0) := by
   rw [show tab L (cvk (sq A) (sq C) 0) = List.replicate L 0 from (zev L).symm, u8s, List.map_replicate]; rfl
  rw [e]; exact h)
 rw [<- HG.out]
 clear R1
 go_loopw [29] (fun i wr => ∃ k : Nat, k <= A.length ∧ i = .int .i64 k ∧ Row wr g 5 (u8s (tab L (cvk (sq A) (sq C) k))) ∧ Below w.heap.size w wr) (fun i _ => A.length - (intOf i).toNat)
 case atStart => exact ⟨0, Nat.zero_le _, rfl, RG.out, B1.out⟩
 case round =>
  clear RG B1
  obtain ⟨k, hk, rfl, hrow, hbw⟩ := hrel
  by_cases hlt : k < A.length
  .have hk1 : (k : Int) < A.length := by omega
   obtain ⟨b2, off, rfl, hbb, hcl⟩ := HR.out (by rw [zaf]; omega)
   have hcell : wr.cell? ⟨b2, off + k, none⟩ = some (.int .u8 (sq A k : Int)) := by rw [zas A k hlt]; exact (hbw.cell (p := ⟨b2, off + k, none⟩) hbb).trans (hcl k _ (zbs A k hlt))
   obtain ⟨x, hc'⟩ : ∃ x, sq A k = x := ⟨_, rfl⟩; rw [hc'] at hcell; have HSA := zh hc'
   have R0 : Hid (Row wr g 5 (u8s (tab L (cvj A C k 0)))) := zh (by rw [zap L (fun n _ => ztz A C k n)]; exact hrow)
   have B0 := zh hbw; clear hcl hrow hbw hc' hbb; go_wp2
   go_loopw [36] (fun i wr => ∃ j : Nat, j <= C.length ∧ i = .int .i64 j ∧ Row wr g 5 (u8s (tab L (cvj A C k j))) ∧ Below w.heap.size w wr) (fun i _ => C.length - (intOf i).toNat)
   case atStart => exact ⟨0, Nat.zero_le _, rfl, R0.out, B0.out⟩
   case round =>
    clear R0 B0; obtain ⟨j, hj, rfl, hrow, hbw⟩ := hrel
    by_cases hlj : j < C.length
    .have hj1 : (j : Int) < C.length := by omega
     obtain ⟨b3, off3, rfl, hbb3, hcl3⟩ := HS.out (by rw [zaf]; omega)
     have hcell3 : wr.cell? ⟨b3, off3 + j, none⟩ = some (.int .u8 (sq C j : Int)) := by rw [zas C j hlj]; exact (hbw.cell (p := ⟨b3, off3 + j, none⟩) hbb3).trans (hcl3 j _ (zbs C j hlj))
     obtain ⟨m, hm⟩ : ∃ m, k + j = m := ⟨_, rfl⟩
     have hmi : (k : Int) + (j : Int) = (m : Int) := by omega
     have hmL : m < L := by have := HL.out; omega
     have hm1 : (m : Int) < L := by omega
     have hm0 : 0 <= (m : Int) := by omega
     have hmw : IntKind.i64.wrap (m : Int) = (m : Int) := by rw [IntKind.wrap_i64]; omega
     have hst := zbhs A C L k j; have hp8 := zbdw HA.out HC.out k j m
     have hcp : wr.cell? ⟨g, m, none⟩ = some (.int .u8 (cvj A C k j m : Int)) := by
      rw [hrow.cell, u8s, List.getElem?_map, zgt _ _ _ hmL]; rfl
     rw [hm, HSA.out] at hst
     have hc8 : x < 256 := by rw [<- HSA.out]; exact HA.out.sq k
     have hd8 := HC.out.sq j; have hq8 := zbb hc8 hd8; obtain ⟨d, hd⟩ : ∃ d, sq C j = d := ⟨_, rfl⟩; rw [hd] at hst hcell3 hd8 hq8; obtain ⟨p, hp⟩ : ∃ p, cvj A C k j m = p := ⟨_, rfl⟩; rw [hp] at hst hp8 hcp
     have HMU0 : ∀ (u : World) (b1 : Nat), Fld u b -> Lies u u.heap.size (some ⟨b1, 0, none⟩) [.int .u8 (x : Int), .int .u8 (d : Int)] -> Calls Tryz.prog 151 #[.pointer (some ⟨b, 0, none⟩), .slice (some ⟨b1, 0, none⟩) 2 2] u fun e w' => e = .returned (.int .u8 (gm x d : Int)) ∧ Below u.heap.size u w' := fun u b1 hf hl => zlu b b1 2 x d u hf hc8 hd8 hl
     obtain ⟨q, hq⟩ : ∃ q, gm x d = q := ⟨_, rfl⟩; rw [hq] at HMU0 hst hq8
     have HAD0 : ∀ (u : World) (b1 : Nat), Lies u u.heap.size (some ⟨b1, 0, none⟩) [.int .u8 (p : Int), .int .u8 (q : Int)] -> Calls Tryz.prog 150 #[.pointer (some ⟨b, 0, none⟩), .slice (some ⟨b1, 0, none⟩) 2 2] u fun e w' => e = .returned (.int .u8 ((p ^^^ q : Nat) : Int)) ∧ Below u.heap.size u w' := fun u b1 hl => (zpj b b1 2 p q u hp8 hq8 hl).mono fun _ u' h => ⟨h.1, by rw [<- h.2]; exact zb⟩
     obtain ⟨r, hr⟩ : ∃ r, p ^^^ q = r := ⟨_, rfl⟩; rw [hr] at HAD0 hst; have HMU := zh HMU0; have HAD := zh HAD0; have HCP := zh hcp; have HROW := zh hrow; have HBW := zh hbw
     have HGL : Hid (g < wr.heap.size) := zh hrow.lt
     have HGB : Hid (w.heap.size <= g) := zh (by rw [HG.out]; exact Nat.le_refl _)
     have HFR : Hid (Fld wr b) := zh (HF.out.step hbw)
     have HLM : Hid (m < (u8s (tab L (cvj A C k j))).length) := zh (by rw [zaf, zad]; exact hmL)
     have HVC : Hid ((Value.int .u8 (r : Int)).cells = #[.int .u8 (r : Int)]) := zh rfl
     have HVO : Hid ((Value.int .u8 (r : Int)).oneCell' = true) := zh rfl
     have HST : Hid ((u8s (tab L (cvj A C k j))).set m (.int .u8 (r : Int)) = u8s (tab L (cvj A C k (j + 1)))) := zh (by rw [zco, hst])
     clear HMU0 HAD0 hcp hrow hbw hst hp hq hr hd hcl3 hbb3 hm hmL hp8 hc8 hd8 hq8 HSA; go_wp2
     refine zdr 18 [(0, 41), (1, 42), (2, 43), (3, 44), (4, 45), (5, 46), (6, 47), (7, 48), (8, 49), (9, 50), (10, 51), (11, 52), (12, 53), (13, 54), (14, 55), (15, 56), (16, 57), (17, 58)]
      (fun i => [Is (.slice (some ⟨g, 0, none⟩) L L), Is (.int .i64 (k : Int)), Is (.int .i64 (j : Int)), Is (.int .i64 (m : Int)), Is (.pointer (some ⟨b, 0, none⟩)), Is (.slice (some ⟨g, 0, none⟩) L L), Is (.int .i64 (k : Int)), Is (.int .i64 (j : Int)), Is (.int .i64 (m : Int)), Is (.pointer (some ⟨g, m, none⟩)), Is (.int .u8 (p : Int)), Is (.pointer (some ⟨b, 0, none⟩)), Is (.int .u8 (x : Int)), Is (.int .u8 (d : Int)), New [.int .u8 (x : Int), .int .u8 (d : Int)], Is (.int .u8 (q : Int)), New [.int .u8 (p : Int), .int .u8 (q : Int)], Is (.int .u8 (r : Int))].getD i (Is undef))
      (fun w' => Below wr.heap.size wr w') (by kernel_rfl) (by decide) (by kernel_rfl) (by kernel_rfl) (by kernel_rfl) (by decide) (by decide) (by kernel_rfl) rfl ?mono ((zb).drew) ?step ?fin
     case mono =>
      intro i
      match i with
      | 0 | 1 | 2 | 3 | 4 | 5 | 6 | 7 | 8 | 9 | 10 | 11 | 12 | 13 | 15 | 17 => exact Is.monot _
      | 14 | 16 => exact New.monot _
      | _ + 18 => exact Is.monot _
     case step =>
      refine zf ⟨?s0, zf ⟨?s1, zf ⟨?s2, zf ⟨?s3, zf ⟨?s4, zf ⟨?s5, zf ⟨?s6, zf ⟨?s7, zf ⟨?s8, zf ⟨?s9, zf ⟨?s10, zf ⟨?s11, zf ⟨?s12, zf ⟨?s13, zf ⟨?s14, zf ⟨?s15, zf ⟨?s16, zf ⟨?s17, List.forall_mem_nil _⟩⟩⟩⟩⟩⟩⟩⟩⟩⟩⟩⟩⟩⟩⟩⟩⟩⟩
      case s3 =>
       intro u wx hg hC; have hJ1 := zj hC 1; have hJ2 := zj hC 2; clear hC; refine wpOp_step rfl fun K hK => ?_
       simp only [zu, zv]; go_simp; exact zK hK hg
      case s8 =>
       intro u wx hg hC; have hJ6 := zj hC 6; have hJ7 := zj hC 7; clear hC; refine wpOp_step rfl fun K hK => ?_
       simp only [zu, zv]; go_simp; exact zK hK hg
      case s9 =>
       intro u wx hg hC; have hJ5 := zj hC 5; have hJ8 := zj hC 8; clear hC; refine wpOp_step rfl fun K hK => ?_
       simp only [zu, zv]; go_simp; exact zK hK hg
      case s10 =>
       intro u wx hg hC
       have hJ : u 9 = (.pointer (some ⟨g, m, none⟩)) := hC.at 9 (by kernel_rfl)
       clear hC
       have hcl : wx.cell? ⟨g, m, none⟩ = some (.int .u8 (p : Int)) := (hg.cell (p := ⟨g, m, none⟩) HGL.out).trans HCP.out
       refine wpOp_step rfl fun K hK => ?_
       simp only [zu, zv]; go_simp; exact zK hK hg
      case s14 =>
       intro u wx hg hC; have hJ12 := zj hC 12; have hJ13 := zj hC 13; clear hC; refine wpOp_step rfl fun K hK => ?_
       simp only [zu, zv]; go_simp; exact hK _ _ ⟨rfl, ⟨wx.heap.size, rfl, Lies.new [_, _] _ _⟩, hg.alloc hg.size _, zab _ _⟩
      case s15 =>
       intro u wx hg hC; have hJ11 := zj hC 11; obtain ⟨b1, h2, hl⟩ : New [.int .u8 (x : Int), .int .u8 (d : Int)] (u 14) wx := hC.at 14 (by kernel_rfl)
       clear hC
       simp only [List.length_cons, List.length_nil, Nat.zero_add, Nat.reduceAdd] at h2
       refine wpOp_step rfl fun K hK => ?_
       simp only [zu, zv]; go_simp
       refine (HMU.out wx b1 (HFR.out.step hg) hl).mono ?_
       rintro e w' ⟨rfl, hb'⟩
       exact hK _ _ ⟨rfl, rfl, hg.next hb', hb'⟩
      case s16 =>
       intro u wx hg hC; have hJ10 := zj hC 10; have hJ15 := zj hC 15; clear hC; refine wpOp_step rfl fun K hK => ?_
       simp only [zu, zv]; go_simp; exact hK _ _ ⟨rfl, ⟨wx.heap.size, rfl, Lies.new [_, _] _ _⟩, hg.alloc hg.size _, zab _ _⟩
      case s17 =>
       intro u wx hg hC; have hJ4 := zj hC 4; obtain ⟨b1, h2, hl⟩ : New [.int .u8 (p : Int), .int .u8 (q : Int)] (u 16) wx := hC.at 16 (by kernel_rfl)
       clear hC
       simp only [List.length_cons, List.length_nil, Nat.zero_add, Nat.reduceAdd] at h2
       refine wpOp_step rfl fun K hK => ?_
       simp only [zu, zv]; go_simp
       refine (HAD.out wx b1 hl).mono ?_
       rintro e w' ⟨rfl, hb'⟩
       exact hK _ _ ⟨rfl, rfl, hg.next hb', hb'⟩
      all_goals
       intro u wx hg hC; clear hC; refine wpOp_step rfl fun K hK => ?_
       simp only [zu, zv]; go_simp
       refine hK _ _ ?_
       clear hK K
       first
        | (refine ⟨rfl, ?_, hg, zb⟩; rfl)
        | (refine ⟨rfl, ?_, hg.alloc hg.size _, zab _ _⟩; exact ⟨wx.heap.size, rfl, Lies.new [_] _ _⟩)
        | (refine ⟨rfl, ?_, hg.alloc hg.size _, zab _ _⟩; exact ⟨wx.heap.size, rfl, Lies.new [_, _] _ _⟩)
     case fin =>
      intro u w9 hbw9 hφ
      have h0 : u 0 = .slice (some ⟨g, 0, none⟩) L L := hφ (0, 41) (by decide)
      have h3 : u 3 = .int .i64 (m : Int) := hφ (3, 44) (by decide)
      have h17 : u 17 = .int .u8 (r : Int) := hφ (17, 58) (by decide)
      clear hφ; simp only [zu, zv]; go_simp; have R9 := zh (HROW.out.step hbw9); have B9 := zh hbw9; clear hbw9
      go_wp2_with (first
       | ((with_reducible refine R9.out.wpStore1K m 5 (.int .u8 (r : Int)) HS1.out HLM.out HVC.out HVO.out ?_ ?_); rfl; intro w2 r2 o2 s2; have R2 := zh r2; have O2 := zh o2; clear r2 o2 s2))
      go_roundw
      case rel => exact ⟨j + 1, by omega, by go_num, by have h := R2.out; rw [HST.out] at h; exact h, (HBW.out.next B9.out).trans (O2.out.below HGB.out (HBW.out.next B9.out).size)⟩
      case measure => simp [intOf]; omega
    .have ej : j = C.length := by omega
     have HROW : Hid (Row wr g 5 (u8s (tab L (cvk (sq A) (sq C) (k + 1))))) := zh (by
      rw [<- zap L (fun n _ => zty A C k n), <- ej]; exact hrow)
     have HBW := zh hbw; clear hrow hbw ej; go_wp2
     go_roundw
     case rel => exact ⟨k + 1, by omega, by go_num, HROW.out, HBW.out⟩
     case measure => simp [intOf]; omega
  .have ek : k = A.length := by omega
   have HRD : Hid (Reads wr (.slice (some ⟨g, 0, none⟩) L L) (pm A C)) := zh (by
    rw [HPM.out]
    refine ⟨_, _, by rw [zad], by rw [zad]; exact Nat.le_refl _, ?_⟩
    rw [<- ek]; intro _; exact ⟨g, 0, rfl, hrow.lt, fun j u hu => by rw [Nat.zero_add, hrow.cell]; exact hu⟩)
   have HBW := zh hbw; clear hrow hbw ek; go_wp2; go_ret; exact ⟨⟨_, rfl, HRD.out⟩, HBW.out⟩
theorem zop (b : Nat) (a c : Option Addr) (ca cc : Nat) (A C : List Nat) (w : World) (hf : Fld w b) (hA : By A) (hC : By C) (hla : A.length <= 1000000) (hlc : C.length <= 1000000)
  (hr : Lies w w.heap.size a (u8s A)) (hs : Lies w w.heap.size c (u8s C)) :
  Calls Tryz.prog 128 #[.pointer (some ⟨b, 0, none⟩), .slice a A.length ca, .slice c C.length cc] w fun e w' => (∃ v, e = .returned v ∧ Reads w' v (pm A C)) ∧ Below w.heap.size w w' := by
 by_cases h0 : A.length = 0
 .have hi : (A.length : Int) = 0 := by omega
  have hi1 : ((A.length : Int) == 0) = true := beq_iff_eq.2 hi
  have HP : Hid (pm A C = []) := zh (by unfold pm; rw [if_pos (Or.inl h0)])
  clear h0 hf hr hs
  go_enter Tryz.func128, Tryz.ntmps128
  go_wp2
  go_ret
  exact ⟨⟨_, rfl, by rw [HP.out]; exact Reads.nil _⟩, zb⟩
 .by_cases h1 : C.length = 0
  .have ha0 : ¬ (A.length : Int) = 0 := by omega
   have ha1 : ((A.length : Int) == 0) = false := beq_false_of_ne ha0
   have hi : (C.length : Int) = 0 := by omega
   have hi1 : ((C.length : Int) == 0) = true := beq_iff_eq.2 hi
   have HP : Hid (pm A C = []) := zh (by unfold pm; rw [if_pos (Or.inr h1)])
   clear h0 h1 hf hr hs
   go_enter Tryz.func128, Tryz.ntmps128
   go_wp2; go_ret; exact ⟨⟨_, rfl, by rw [HP.out]; exact Reads.nil _⟩, zb⟩
  .exact zyf b a c ca cc A C w hf hA hC hla hlc (by omega) (by omega) hr hs
theorem zgz : One Tryz.prog 5 := One.of (by kernel_rfl)
theorem zmf (a : Option Addr) (cap : Nat) (l : List Nat) (w : World) (hl : l.length <= 140737488355328) (hcap : l.length <= cap) (hr : Lies w w.heap.size a (u8s l)) (h0 : (beh l).length = 0) :
  Calls Tryz.prog 165 #[.slice a l.length cap] w fun e w' => e = .returned (.slice none 0 0) ∧ w = w' := by
 have HI := zh (zrn a cap l w hl hr)
 have hf : firstOf l = -1 := if_neg (by rw [zcf] at h0; have := zjt l; omega)
 rw [hf] at HI
 clear hf hr h0
 go_enter Tryz.func165, Tryz.ntmps165
 go_wp2_with (go_at_call 183; (with_reducible refine HI.out.mono ?_); rintro e w1 ⟨rfl, rfl⟩)
 go_ret
 exact ⟨rfl, rfl⟩
theorem zee (a : Option Addr) (cap : Nat) (l : List Nat) (w : World) (hl : l.length <= 140737488355328) (hcap : l.length <= cap) (hr : Lies w w.heap.size a (u8s l)) (h0 : 0 < (beh l).length) :
  Calls Tryz.prog 165 #[.slice a l.length cap] w fun e w' => (∃ g o c, e = .returned (.slice (some ⟨g, o, none⟩) (beh l).length c) ∧ (beh l).length <= c ∧ Lies w w.heap.size (some ⟨g, o, none⟩) (u8s (beh l))) ∧ w = w' :=
 (zfb a cap l w hl hcap hr).mono fun e w' ⟨⟨v, he, a', c, hv, hc, hL⟩, h2⟩ => by
  obtain ⟨g, o, rfl, h3⟩ := hL (by rw [zaf]; exact h0)
  exact ⟨⟨g, o, c, by rw [he, hv], hc, fun _ => ⟨g, o, rfl, h3⟩⟩, h2⟩
theorem zrf (w : World) : Calls Tryz.prog 166 #[.slice none 0 0] w fun e w' => e = .returned (.slice none 0 0) ∧ w = w' := by
 have he : ∀ w : World, (binOp .eql 107 (.slice none 0 0) (.slice none 0 0)).run Tryz.prog w = .ok (.bool true) w := fun _ => rfl
 go_enter Tryz.func166, Tryz.ntmps166
 go_wp2
 go_ret
 exact ⟨rfl, rfl⟩
theorem zgh (g o cap : Nat) (l : List Nat) (w : World) (hl : l.length <= 1000000) (h0 : 0 < l.length) (hr : Lies w w.heap.size (some ⟨g, o, none⟩) (u8s l)) :
  Calls Tryz.prog 166 #[.slice (some ⟨g, o, none⟩) l.length cap] w fun e w' =>
   (∃ g' c', e = .returned (.slice (some ⟨g', 0, none⟩) l.length c') ∧ w.heap.size <= g' ∧ w'.ownsRow w.heap.size 5 1 (.slice (some ⟨g', 0, none⟩) l.length c') l.length (u8s l)) ∧ Below w.heap.size w w' := by
 have he : ∀ w : World, (binOp .eql 107 (.slice (some ⟨g, o, none⟩) l.length cap) (.slice none 0 0)).run Tryz.prog w = .ok (.bool false) w := fun _ => rfl
 have HR := zh hr
 have HL : Hid ((u8s l).length = l.length) := zh (zaf l)
 have H0 : Hid (0 < l.length) := zh h0
 have H1 : Hid ((u8s l).all (·.oneCell') = true) := zh (zqy l)
 have HN : Big (0 + l.length <= 1099511627776) := ⟨by omega⟩
 obtain ⟨B, hB⟩ : ∃ B, B = w.heap.size := ⟨_, rfl⟩
 have HB := zh hB
 have HOW : Hid (∀ (t : TypeId) (u : World), u.heap.size = B -> t = 5 -> (u.alloc (.cells #[] t)).ownsRow B 5 1 (.slice (some ⟨u.heap.size, 0, none⟩) 0 0) 0 []) := zh (by
  intro t u hu ht
  subst ht
  exact Row.owns (xs := []) (ys := []) (Row.new u _ []) (by omega) rfl rfl (Nat.le_refl _) (by unfold maxLen; omega))
 clear hr h0 hB
 go_enter Tryz.func166, Tryz.ntmps166
 go_wp2_with ((with_reducible refine wpAppendK cap (HOW.out 5 w HB.out.symm rfl) Tryz.underlying107 zgz (HR.out.step (zab _ _)) HL.out H0.out H1.out HN (by rw [HB.out]; exact (zab w _).size) ?_ ?_); rfl; intro v1 w1 g1 g2 g3; have G1 := zh g1; have G2 := zh g2; have G3 := zh g3; clear g1 g2 g3)
 obtain ⟨B1, hB1⟩ : ∃ B1 : Below w.heap.size w w1, True := ⟨((zab w _).grown G2.out (by simp) (fun k hk => by cases hk; exact Nat.le_refl _)), trivial⟩
 have h1 := G1.out
 rw [Nat.zero_add, List.nil_append, HB.out] at h1
 rcases h1.2 with ⟨_, h2⟩ | ⟨g', cap', cur, h2, h3, _⟩
 .have := H0.out; omega
 .subst h2
  go_ret
  exact ⟨⟨g', cap', rfl, h3, h1⟩, B1⟩
theorem zha {w : World} {base g n cap : Nat} {e : TypeId} {xs : List Value} (h : w.ownsRow base e 1 (.slice (some ⟨g, 0, none⟩) n cap) n xs) : Lies w w.heap.size (some ⟨g, 0, none⟩) xs ∧ n <= cap := by
 obtain ⟨a, c, e1, h1⟩ := zjh h
 cases e1
 refine ⟨h1, ?_⟩
 rcases h.2 with ⟨h1, _⟩ | ⟨g', cap', cur, h1, h2, h3, h4, _⟩
 .cases h1
 .cases h1; exact h4
theorem zbdj (a : Option Addr) (cap : Nat) (l : List Nat) (w : World) (hl : l.length <= 1000000) (hn : l.length = 0 -> a = none ∧ cap = 0) (hr : Lies w w.heap.size a (u8s l)) :
  Calls Tryz.prog 166 #[.slice a l.length cap] w fun e w' => (∃ v, e = .returned v ∧ Reads w' v l) ∧ Below w.heap.size w w' := by
 by_cases h0 : l.length = 0
 .obtain ⟨rfl, rfl⟩ := hn h0
  have e0 : l = [] := List.eq_nil_of_length_eq_zero h0
  subst e0
  exact (zrf w).mono fun e w' h => ⟨⟨_, h.1, Reads.nil _⟩, by rw [<- h.2]; exact zb⟩
 .obtain ⟨g, o, rfl, h1⟩ := hr (by rw [zaf]; omega)
  exact (zgh g o cap l w hl (by omega) (fun _ => ⟨g, o, rfl, h1⟩)).mono fun e w' ⟨⟨g', c', h1, _, h3⟩, h4⟩ => ⟨⟨_, h1, _, _, rfl, (zha h3).2, (zha h3).1⟩, h4⟩
theorem zbgj (b : Nat) (a : Option Addr) (cap : Nat) (l : List Nat) (w : World) (hf : Fld w b) (hb : By l) (hl : l.length <= 1000) (hr : Lies w w.heap.size a (u8s l)) :
  Calls Tryz.prog 96 #[.pointer (some ⟨b, 0, none⟩), .slice a l.length cap] w fun e w' => (∃ v, e = .returned v ∧ Reads w' v (rt l)) ∧ Below w.heap.size w w' := by
 have HF := zh hf
 have HR := zh hr
 have HB := zh hb
 have H0 : Hid (Reads (w.alloc (.cells #[.int .u8 1] 5)) (.slice (some ⟨w.heap.size, 0, none⟩) 1 1) (rt [])) := zh ⟨_, 1, rfl, by decide, Lies.new [.int .u8 1] w _⟩
 clear hf hr hb
 go_enter Tryz.func96, Tryz.ntmps96
 go_wp2
 go_loopw [5, 13] (fun p i wr => ∃ k : Nat, k <= l.length ∧ i = .int .i64 k ∧ Reads wr p (rt (l.take k)) ∧ Below w.heap.size w wr) (fun _ i _ => l.length - (intOf i).toNat)
 case atStart => exact ⟨0, Nat.zero_le _, rfl, H0.out, zab _ _⟩
 case round =>
  clear H0
  obtain ⟨k, hk, rfl, ⟨ap, cp, rfl, hcp, hp⟩, hbw⟩ := hrel
  by_cases hlt : k < l.length
  .have hk1 : (k : Int) < l.length := by omega
   obtain ⟨b2, off, rfl, hbb, hcl⟩ := HR.out (by rw [zaf]; omega)
   have hcell : wr.cell? ⟨b2, off + k, none⟩ = some (.int .u8 (l[k] : Int)) := (hbw.cell (p := ⟨b2, off + k, none⟩) hbb).trans (hcl k _ (zbs l k hlt))
   have hst : rt (l.take (k + 1)) = pm (rt (l.take k)) [1, l[k]] := by rw [zbq l k hlt, zqs]
   obtain ⟨h1, h2, _⟩ := zdw (l.take k) fun x hx => HB.out x (List.mem_of_mem_take hx)
   have hx8 := HB.out _ (List.getElem_mem hlt); rw [List.length_take] at h2; obtain ⟨x, hx⟩ : ∃ x, l[k] = x := ⟨_, rfl⟩; rw [hx] at hcell hst hx8; obtain ⟨P, hP⟩ : ∃ P, rt (l.take k) = P := ⟨_, rfl⟩; rw [hP] at hst hp h1 h2 hcp; rw [hP]
   have HT : Hid (∀ (u : World) (g : Nat), Fld u b -> Lies u u.heap.size ap (u8s P) -> Lies u u.heap.size (some ⟨g, 0, none⟩) (u8s [1, x]) -> Calls Tryz.prog 128 #[.pointer (some ⟨b, 0, none⟩), .slice ap P.length cp, .slice (some ⟨g, 0, none⟩) 2 2] u fun e w' => (∃ v, e = .returned v ∧ Reads w' v (pm P [1, x])) ∧ Below u.heap.size u w') :=
    zh fun u g h3 h4 h5 => zop b ap (some ⟨g, 0, none⟩) cp 2 P [1, x] u h3 h1 (zdm (show 1 < 256 by omega) hx8) (by omega) (by simp) h4 h5
   have HP := zh hp; have HS := zh hst; have HW := zh hbw
   have HFR : Hid (Fld wr b) := zh (HF.out.step hbw)
   clear hp h1 h2 hst hbw hx8 hcl hbb hx hP hcp
   go_wp2_with (first
    | (go_at_call 129; (with_reducible refine (zbix x wr).mono ?_); rintro e w1 ⟨rfl, l1, b1⟩; have L1 := zh l1; have B1 := zh b1; clear l1 b1)
    | (go_at_call 128; (with_reducible refine (HT.out w1 _ (HFR.out.step B1.out) (HP.out.step B1.out) L1.out).mono ?_); rintro e w2 ⟨⟨v, rfl, hv⟩, b2⟩; have V2 := zh hv; have B2 := zh b2; clear hv b2))
   go_roundw
   case rel => exact ⟨k + 1, by omega, by go_num, by rw [HS.out]; exact V2.out, (HW.out.next B1.out).next B2.out⟩
   case measure => simp [intOf]; omega
  .have ek : k = l.length := by omega
   have HV : Hid (Reads wr (.slice ap (rt (l.take k)).length cp) (rt l)) := zh (by
    rw [ek, List.take_of_length_le (Nat.le_refl _)] at hp hcp ⊢; exact ⟨ap, cp, rfl, hcp, hp⟩)
   have HW := zh hbw; clear hp hbw; go_wp2; go_ret; exact ⟨⟨_, rfl, HV.out⟩, HW.out⟩
abbrev Hd := Option Addr × Nat × Nat
def slv (t : Hd) : Value := .slice t.1 t.2.1 t.2.2
def slvs (ts : List Hd) : List Value := ts.map slv
theorem zig (ts : List Hd) : (slvs ts).length = ts.length := by simp [slvs]
theorem znq (ts : List Hd) (j : Nat) (h : j < ts.length) : (slvs ts)[j]? = some (slv ts[j]) := by simp [slvs, h]
theorem zbls (l : List Nat) (k : Nat) (h : k < l.length) (x : Nat) : ev (l.take (k + 1)) x = gm (ev (l.take k) x) x ^^^ sq l k := by rw [zbq l k h, zcw, zas l k h]
theorem zbll {l : List Nat} (h : By l) (k : Nat) : By (l.take k) := fun x hx => h x (List.mem_of_mem_take hx)
theorem zug (b : Nat) (a : Option Addr) (cap : Nat) (l : List Nat) (x : Nat) (w : World) (hf : Fld w b) (hb : By l) (hx : x < 256) (hl : l.length <= 140737488351232) (hr : Lies w w.heap.size a (u8s l)) :
  Calls Tryz.prog 174 #[.pointer (some ⟨b, 0, none⟩), .slice a l.length cap, .int .u8 (x : Int)] w fun e w' => e = .returned (.int .u8 (ev l x : Int)) ∧ Below w.heap.size w w' := by
 have HF := zh hf
 have HR := zh hr
 have HB := zh hb
 clear hf hr hb
 go_enter Tryz.func174, Tryz.ntmps174
 go_wp2
 go_loopw [7, 14] (fun p i wr => ∃ k : Nat, k <= l.length ∧ i = .int .i64 k ∧ p = .int .u8 (ev (l.take k) x : Int) ∧ Below w.heap.size w wr) (fun _ i _ => l.length - (intOf i).toNat)
 case atStart => exact ⟨0, Nat.zero_le _, rfl, rfl, zb⟩
 case round =>
  obtain ⟨k, hk, rfl, rfl, hbw⟩ := hrel
  by_cases hlt : k < l.length
  .have hk1 : (k : Int) < l.length := by omega
   obtain ⟨b2, off, rfl, hbb, hcl⟩ := HR.out (by rw [zaf]; omega)
   have hcell : wr.cell? ⟨b2, off + k, none⟩ = some (.int .u8 (sq l k : Int)) := by rw [zas l k hlt]; exact (hbw.cell (p := ⟨b2, off + k, none⟩) hbb).trans (hcl k _ (zbs l k hlt))
   have hst := zbls l k hlt x; have hv8 := zbh (zbll HB.out k) hx; have hd8 := HB.out.sq k; obtain ⟨d, hd⟩ : ∃ d, sq l k = d := ⟨_, rfl⟩; rw [hd] at hcell hst hd8; obtain ⟨v, hv⟩ : ∃ v, ev (l.take k) x = v := ⟨_, rfl⟩; rw [hv] at hst hv8; rw [hv]; have hq8 := zbb hv8 hx; have HM0 := fun (u : World) (hf : Fld u b) => mul2 b v x 5 hv8 hx u hf
   obtain ⟨q, hq⟩ : ∃ q, gm v x = q := ⟨_, rfl⟩; rw [hq] at HM0 hst hq8; have HM := zh HM0; have HA := zh (fun (u : World) => add2 b q d 5 hq8 hd8 u)
   have HS := zh hst; have HW := zh hbw
   have HFR : Hid (Fld wr b) := zh (HF.out.step hbw)
   clear HM0 hst hbw hv8 hd8 hq8 hcl hbb hd hv hq
   go_wp2_with (first
    | (go_at_call 151; (with_reducible refine (HM.out wr HFR.out).mono ?_); rintro e w1 ⟨rfl, b1⟩; have B1 := zh b1; clear b1)
    | (go_at_call 150; (with_reducible refine (HA.out w1).mono ?_); rintro e w2 ⟨rfl, b2⟩; have B2 := zh b2; clear b2))
   go_roundw
   case rel => exact ⟨k + 1, by omega, by go_num, by rw [HS.out], (HW.out.next B1.out).next B2.out⟩
   case measure => simp [intOf]; omega
  .have ek : k = l.length := by omega
   have HV : Hid (ev (l.take k) x = ev l x) := zh (by rw [ek, List.take_of_length_le (Nat.le_refl _)])
   have HW := zh hbw; clear hbw; go_wp2; go_ret; exact ⟨by rw [<- HV.out]; rfl, HW.out⟩
theorem zea : (Tryz.prog.info? 5).map (·.size) = some 1 := by kernel_rfl
theorem zbar (b : Nat) (a : Option Addr) (cap : Nat) (l : List Nat) (w : World) (hb : By l) (hl : l.length <= 1000000) (hr : Lies w w.heap.size a (u8s l)) :
  Calls Tryz.prog 178 #[.pointer (some ⟨b, 0, none⟩), .slice a l.length cap] w fun e w' => (∃ v, e = .returned v ∧ Reads w' v (beh (dl l))) ∧ Below w.heap.size w w' := by
 by_cases h0 : l.length = 0
 .have hi : (l.length : Int) = 0 := by omega
  have hi1 : ((l.length : Int) == 0) = true := beq_iff_eq.2 hi
  have HE : Hid (beh (dl l) = []) := zh (by have : l = [] := List.eq_nil_of_length_eq_zero h0; subst this; rfl)
  clear hr h0
  go_enter Tryz.func178, Tryz.ntmps178
  go_wp2
  go_ret
  exact ⟨⟨_, rfl, by rw [HE.out]; exact Reads.nil _⟩, zb⟩
 .obtain ⟨N, hN⟩ : ∃ N, l.length - 1 = N := ⟨_, rfl⟩
  have hNi : (l.length : Int) - 1 = (N : Int) := by omega
  have hNc : (N : Int) <= 1000000 := by omega
  have ha0 : ¬ (l.length : Int) = 0 := by omega
  have ha1 : ((l.length : Int) == 0) = false := beq_false_of_ne ha0
  obtain ⟨b2, off, rfl, hbb, hcl⟩ := hr (by rw [zaf]; omega)
  obtain ⟨g, hg⟩ : ∃ g, g = w.heap.size := ⟨_, rfl⟩
  have HG := zh hg
  have HN := zh hN
  have HCL := zh hcl
  have HBB := zh hbb
  have HI8 : Hid ((Tryz.prog.info? 5).map (fun i => (i.zero, i.size, i.bytes)) = some (some (.int .u8 0), 1, 8) ∨ (Tryz.prog.info? 5).map (fun i => (i.zero, i.size, i.bytes)) = some (some (.int .u8 0), 1, 1)) := zh (Or.inr zbx)
  have HLL : Hid (N <= N) := zh (Nat.le_refl _)
  have HLM0 : Hid (N <= 1099511627776) := zh (by omega)
  have HZC : Hid ((Value.int .u8 0).cells = #[.int .u8 0]) := zh rfl
  have HNB : Hid (N <= 1000000) := zh (by omega)
  have HLN : Hid (l.length = N + 1) := zh (by omega)
  have HB8 := zh hb
  clear hr hg hN hcl hbb h0 hl hb
  go_enter Tryz.func178, Tryz.ntmps178
  go_wp2_with (first
   | ((with_reducible refine wpMakeK 107 5 (.int .u8 0) N N Tryz.underlying107 HI8.out HZC.out HLL.out HLM0.out ?_ ?_); rfl; intro w1 r1 b1 s1; have R1 := zh r1; have B1 := zh b1; clear r1 b1 s1))
  have RG : Hid (Row w1 g 5 (u8s (tab N (fun i => if i < 0 ∧ (N - i) % 2 = 1 then sq l i else 0)))) := zh (by
   have h := R1.out; rw [<- HG.out] at h
   have e : u8s (tab N (fun i => if i < 0 ∧ (N - i) % 2 = 1 then sq l i else 0)) = List.replicate N (.int .u8 0) := by
    rw [show tab N (fun i => if i < 0 ∧ (N - i) % 2 = 1 then sq l i else 0) = List.replicate N 0 from (by rw [zev]; exact zap N fun n _ => by rw [if_neg (by omega)]), u8s, List.map_replicate]; rfl
   rw [e]; exact h)
  rw [<- HG.out]
  clear R1
  go_loopw [21] (fun i wr => ∃ k : Nat, k <= N ∧ i = .int .i64 k ∧ Row wr g 5 (u8s (tab N (fun i => if i < k ∧ (N - i) % 2 = 1 then sq l i else 0))) ∧ Below w.heap.size w wr) (fun i _ => N - (intOf i).toNat)
  case atStart => exact ⟨0, Nat.zero_le _, rfl, RG.out, B1.out⟩
  case round =>
   clear RG B1; obtain ⟨k, hk, rfl, hrow, hbw⟩ := hrel
   by_cases hlt : k < N
   .have hk1 : (k : Int) < N := by omega
    have hk2 : (k : Int) < l.length := by have := HLN.out; omega
    have hcell : wr.cell? ⟨b2, off + k, none⟩ = some (.int .u8 (sq l k : Int)) := by rw [zas l k (by have := HLN.out; omega)]; exact (hbw.cell (p := ⟨b2, off + k, none⟩) HBB.out).trans (HCL.out k _ (zbs l k (by have := HLN.out; omega)))
    obtain ⟨p, hp⟩ : ∃ p, N - k = p := ⟨_, rfl⟩
    have hpi : (N : Int) - (k : Int) = (p : Int) := by omega
    have hpb : (p : Int) <= 1000000 := by have := HNB.out; omega
    by_cases hodd : p % 2 = 1
    .obtain ⟨d, hd⟩ : ∃ d, sq l k = d := ⟨_, rfl⟩
     have hst : (tab N (fun i => if i < k ∧ (N - i) % 2 = 1 then sq l i else 0)).set k d = tab N (fun i => if i < k + 1 ∧ (N - i) % 2 = 1 then sq l i else 0) := by
      rw [zdi]
      refine zap N fun n _ => ?_
      by_cases e : n = k
      .subst e; rw [if_pos rfl, if_pos (by omega), hd]
      .rw [if_neg e]
       by_cases h : n < k ∧ (N - n) % 2 = 1
       .rw [if_pos h, if_pos (by omega)]
       .rw [if_neg h, if_neg (by omega)]
     have HST : Hid ((u8s (tab N (fun i => if i < k ∧ (N - i) % 2 = 1 then sq l i else 0))).set k (.int .u8 (d : Int)) = u8s (tab N (fun i => if i < k + 1 ∧ (N - i) % 2 = 1 then sq l i else 0))) := zh (by rw [zco, hst])
     rw [hd] at hcell
     have ht1 : ((p : Int).tmod 2 == 1) = true := by rw [show (p : Int).tmod 2 = ((p % 2 : Nat) : Int) from rfl, hodd]; rfl
     have ht2 : (p : Int).tmod 2 = 1 := by rw [show (p : Int).tmod 2 = ((p % 2 : Nat) : Int) from rfl, hodd]; rfl
     have ht3 : (p : Int) % 2 = 1 := by omega
     have HROW := zh hrow; have HBW := zh hbw
     have HLM : Hid (k < (u8s (tab N (fun i => if i < k ∧ (N - i) % 2 = 1 then sq l i else 0))).length) := zh (by rw [zaf, zad]; exact hlt)
     have HVC : Hid ((Value.int .u8 (d : Int)).cells = #[.int .u8 (d : Int)]) := zh rfl
     have HVO : Hid ((Value.int .u8 (d : Int)).oneCell' = true) := zh rfl
     have HS1 := zh zea
     have HGB : Hid (w.heap.size <= g) := zh (by rw [HG.out]; exact Nat.le_refl _)
     clear hrow hbw hst hd hp hodd
     go_wp2_with (first
      | ((with_reducible refine HROW.out.wpStore1K k 5 (.int .u8 (d : Int)) HS1.out HLM.out HVC.out HVO.out ?_ ?_); rfl; intro w2 r2 o2 s2; have R2 := zh r2; have O2 := zh o2; clear r2 o2 s2))
     go_roundw
     case rel => exact ⟨k + 1, by omega, by go_num, by have h := R2.out; rw [HST.out] at h; exact h, HBW.out.trans (O2.out.below HGB.out HBW.out.size)⟩
     case measure => simp [intOf]; omega
    .have hst : tab N (fun i => if i < k ∧ (N - i) % 2 = 1 then sq l i else 0) = tab N (fun i => if i < k + 1 ∧ (N - i) % 2 = 1 then sq l i else 0) := by
      refine zap N fun n _ => ?_
      by_cases e : n = k
      .subst e; rw [if_neg (by omega), if_neg (by omega)]
      .by_cases h : n < k ∧ (N - n) % 2 = 1
       .rw [if_pos h, if_pos (by omega)]
       .rw [if_neg h, if_neg (by omega)]
     rw [hst] at hrow
     have he : p % 2 = 0 := by omega
     have ht1 : ((p : Int).tmod 2 == 1) = false := by rw [show (p : Int).tmod 2 = ((p % 2 : Nat) : Int) from rfl, he]; rfl
     have ht2 : (p : Int).tmod 2 = 0 := by rw [show (p : Int).tmod 2 = ((p % 2 : Nat) : Int) from rfl, he]; rfl
     have ht3 : (p : Int) % 2 = 0 := by omega
     have HROW := zh hrow; have HBW := zh hbw; clear hrow hbw hst hp hodd he; go_wp2
     go_roundw
     case rel => exact ⟨k + 1, by omega, by go_num, HROW.out, HBW.out⟩
     case measure => simp [intOf]; omega
   .have ek : k = N := by omega
    have e1 : tab N (fun i => if i < k ∧ (N - i) % 2 = 1 then sq l i else 0) = dl l := by
     rw [dl, HN.out]
     refine zap N fun n hn => ?_
     by_cases h : (N - n) % 2 = 1
     .rw [if_pos (by omega), if_pos h]
     .rw [if_neg (by omega), if_neg h]
    rw [e1] at hrow
    have hdl : (dl l).length = N := by rw [dl, zad, HN.out]
    obtain ⟨D, hD⟩ : ∃ D, dl l = D := ⟨_, rfl⟩; rw [hD] at hrow hdl
    have HBE : Hid (Calls Tryz.prog 165 #[.slice (some ⟨g, 0, none⟩) N N] wr fun e w' => (∃ v, e = .returned v ∧ Reads w' v (beh D)) ∧ wr = w') := zh (by
     have h := zfb (some ⟨g, 0, none⟩) N D wr (by have := HNB.out; omega) (by omega) (fun _ => ⟨g, 0, rfl, hrow.lt, fun j u hu => by rw [Nat.zero_add, hrow.cell]; exact hu⟩)
     rw [hdl] at h; exact h.mono fun e w' ⟨⟨v, h1, h2⟩, h3⟩ => ⟨⟨v, h1, by rw [<- h3]; exact h2⟩, h3⟩)
    have HBW := zh hbw; have HD := zh hD; clear hrow hbw ek e1 hdl hD
    go_wp2_with (go_at_call 165; (with_reducible refine HBE.out.mono ?_); rintro e w2 ⟨⟨v, rfl, hv⟩, rfl⟩; have HV := zh hv; clear hv)
    go_ret; exact ⟨⟨_, rfl, by rw [HD.out]; exact HV.out⟩, HBW.out⟩
theorem zbj {w : World} {g : Nat} {t : TypeId} {xs : List Value} (h : Row w g t xs) : Lies w w.heap.size (some ⟨g, 0, none⟩) xs := fun _ => ⟨g, 0, rfl, h.lt, fun j u hu => by rw [Nat.zero_add, h.cell]; exact hu⟩
def shn (n : Int) : Nat := (min (max n 0) 1000).toNat
theorem zlj (a : Option Addr) (cap : Nat) (l : List Nat) (n : Int) (w : World) (hl : l.length <= 1000000) (hcap : l.length <= cap) (hr : Lies w w.heap.size a (u8s l)) :
  Calls Tryz.prog 140 #[.slice a l.length cap, .int .i64 n] w fun e w' => (∃ v, e = .returned v ∧ Reads w' v (shl l (shn n))) ∧ Below w.heap.size w w' := by
 have hbl := zcy l
 by_cases h0 : (beh l).length = 0
 .have HB := zh (zmf a cap l w (by omega) hcap hr h0)
  have HE : Hid (shl l (shn n) = []) := zh (by unfold shl; exact if_pos h0)
  clear hr h0 hbl
  go_enter Tryz.func140, Tryz.ntmps140
  go_wp2_with (go_at_call 165; (with_reducible refine HB.out.mono ?_); rintro e w1 ⟨rfl, rfl⟩)
  go_ret
  exact ⟨⟨_, rfl, by rw [HE.out]; exact Reads.nil _⟩, zb⟩
 .have HB := zh (zee a cap l w (by omega) hcap hr (by omega))
  have hsh : shl l (shn n) = beh l ++ List.replicate (shn n) 0 := by unfold shl; exact if_neg h0
  have hmb : (beh l).length <= 1000000 := by omega
  obtain ⟨m, hm⟩ : ∃ m, beh l = m := ⟨_, rfl⟩
  rw [hm] at HB h0 hsh hmb
  obtain ⟨k, hk⟩ : ∃ k, shn n = k := ⟨_, rfl⟩
  have hki : min (max n 0) 1000 = (k : Int) := by rw [<- hk, shn]; omega
  have hkb : k <= 1000 := by omega
  rw [hk] at hsh ⊢
  obtain ⟨M, hM⟩ : ∃ M, m.length + k = M := ⟨_, rfl⟩
  have hMi : (m.length : Int) + (k : Int) = (M : Int) := by omega
  have hMw : IntKind.i64.wrap (M : Int) = (M : Int) := by rw [IntKind.wrap_i64]; omega
  have hMb : (M : Int) <= 2000000 := by omega
  have hM0 : 0 <= (M : Int) := by omega
  have ha0 : ¬ (m.length : Int) = 0 := by omega
  have ha1 : ((m.length : Int) == 0) = false := beq_false_of_ne ha0
  have HSH := zh hsh
  have HI8 : Hid ((Tryz.prog.info? 5).map (fun i => (i.zero, i.size, i.bytes)) = some (some (.int .u8 0), 1, 8) ∨ (Tryz.prog.info? 5).map (fun i => (i.zero, i.size, i.bytes)) = some (some (.int .u8 0), 1, 1)) := zh (Or.inr zbx)
  have HLL : Hid (M <= M) := zh (Nat.le_refl _)
  have HLM0 : Hid (M <= 1099511627776) := zh (by omega)
  have HZC : Hid ((Value.int .u8 0).cells = #[.int .u8 0]) := zh rfl
  have HML : Hid (m.length <= M) := zh (by omega)
  have HMK : Hid (M = m.length + k) := zh hM.symm
  have HM0 : Hid (0 < m.length) := zh (by omega)
  have HU : Hid ((u8s m).length = m.length) := zh (zaf m)
  have HU1 : Hid ((u8s m).all (·.oneCell') = true) := zh (zqy m)
  have HRP : Hid ((List.replicate m.length (Value.int .u8 0)).length = m.length) := zh List.length_replicate
  have HRW : Hid (∀ u : World, Row u w.heap.size 5 (List.replicate M (.int .u8 0)) -> Row u w.heap.size 5 ([] ++ List.replicate m.length (.int .u8 0) ++ List.replicate k (.int .u8 0))) := zh fun u h => by rw [List.nil_append, List.replicate_append_replicate, <- HMK.out]; exact h
  have hcase : (n < 0 ∧ k = 0) ∨ (1000 < n ∧ k = 1000) ∨ (0 <= n ∧ n <= 1000 ∧ n = (k : Int)) := by omega
  rcases hcase with ⟨hn1, hk0⟩ | ⟨hn1, hk0⟩ | ⟨hn1, hn2, hn3⟩
  .have hMj : (m.length : Int) = (M : Int) := by omega
   have hb0 : ¬ (M : Int) = 0 := by omega
   have hb1 : ((M : Int) == 0) = false := beq_false_of_ne hb0
   clear hMi hk0
   have hq : min (max n 0) 1000 = (0 : Int) := by omega
   clear hr hm hk hM hsh hbl h0 hl hki
   go_enter Tryz.func140, Tryz.ntmps140
   go_wp2_with (first
    | (go_at_call 165; (with_reducible refine HB.out.mono ?_); rintro e w1 ⟨⟨g3, o3, c3, rfl, hc3, hm3⟩, rfl⟩; have HM3 := zh hm3; clear hm3 hc3)
    | ((with_reducible refine wpMakeK 107 5 (.int .u8 0) M M Tryz.underlying107 HI8.out HZC.out HLL.out HLM0.out ?_ ?_); rfl; intro w1 r1 b1 s1; have R1 := zh (HRW.out w1 r1); have B1 := zh b1; clear r1 b1 s1)
    | ((with_reducible refine R1.out.wpCopyLK (i := 0) (dLen := M) (m := m.length) rfl 107 M c3 Tryz.underlying107 zgz (HM3.out.step B1.out) HU.out HM0.out HML.out HRP.out HU1.out ?_ ?_); rfl; intro w2 r2 o2 s2; have R2 := zh r2; have O2 := zh o2; clear r2 o2 s2))
   go_ret
   refine ⟨⟨_, rfl, ?_⟩, B1.out.trans (O2.out.below (Nat.le_refl _) B1.out.size)⟩
   rw [HSH.out]
   refine ⟨_, _, by rw [List.length_append, List.length_replicate, <- HMK.out]; rfl, by rw [List.length_append, List.length_replicate, <- HMK.out]; exact Nat.le_refl _, ?_⟩
   have h := R2.out; rw [List.nil_append] at h
   have e : u8s (m ++ List.replicate k 0) = u8s m ++ List.replicate k (.int .u8 0) := by rw [zgl]; congr 1; rw [u8s, List.map_replicate]; rfl
   rw [e]; exact zbj h
  .have hMj : (m.length : Int) + 1000 = (M : Int) := by omega
   clear hMi hk0
   have hq : min (max n 0) 1000 = (1000 : Int) := by omega
   clear hr hm hk hM hsh hbl h0 hl hki
   go_enter Tryz.func140, Tryz.ntmps140
   go_wp2_with (first
    | (go_at_call 165; (with_reducible refine HB.out.mono ?_); rintro e w1 ⟨⟨g3, o3, c3, rfl, hc3, hm3⟩, rfl⟩; have HM3 := zh hm3; clear hm3 hc3)
    | ((with_reducible refine wpMakeK 107 5 (.int .u8 0) M M Tryz.underlying107 HI8.out HZC.out HLL.out HLM0.out ?_ ?_); rfl; intro w1 r1 b1 s1; have R1 := zh (HRW.out w1 r1); have B1 := zh b1; clear r1 b1 s1)
    | ((with_reducible refine R1.out.wpCopyLK (i := 0) (dLen := M) (m := m.length) rfl 107 M c3 Tryz.underlying107 zgz (HM3.out.step B1.out) HU.out HM0.out HML.out HRP.out HU1.out ?_ ?_); rfl; intro w2 r2 o2 s2; have R2 := zh r2; have O2 := zh o2; clear r2 o2 s2))
   go_ret
   refine ⟨⟨_, rfl, ?_⟩, B1.out.trans (O2.out.below (Nat.le_refl _) B1.out.size)⟩
   rw [HSH.out]
   refine ⟨_, _, by rw [List.length_append, List.length_replicate, <- HMK.out]; rfl, by rw [List.length_append, List.length_replicate, <- HMK.out]; exact Nat.le_refl _, ?_⟩
   have h := R2.out; rw [List.nil_append] at h
   have e : u8s (m ++ List.replicate k 0) = u8s m ++ List.replicate k (.int .u8 0) := by rw [zgl]; congr 1; rw [u8s, List.map_replicate]; rfl
   rw [e]; exact zbj h
  .subst hn3
   have hq : max (k : Int) 0 = (k : Int) := by omega
   have hq2 : min (k : Int) 1000 = (k : Int) := by omega
   clear hr hm hk hM hsh hbl h0 hl hki
   go_enter Tryz.func140, Tryz.ntmps140
   go_wp2_with (first
    | (go_at_call 165; (with_reducible refine HB.out.mono ?_); rintro e w1 ⟨⟨g3, o3, c3, rfl, hc3, hm3⟩, rfl⟩; have HM3 := zh hm3; clear hm3 hc3)
    | ((with_reducible refine wpMakeK 107 5 (.int .u8 0) M M Tryz.underlying107 HI8.out HZC.out HLL.out HLM0.out ?_ ?_); rfl; intro w1 r1 b1 s1; have R1 := zh (HRW.out w1 r1); have B1 := zh b1; clear r1 b1 s1)
    | ((with_reducible refine R1.out.wpCopyLK (i := 0) (dLen := M) (m := m.length) rfl 107 M c3 Tryz.underlying107 zgz (HM3.out.step B1.out) HU.out HM0.out HML.out HRP.out HU1.out ?_ ?_); rfl; intro w2 r2 o2 s2; have R2 := zh r2; have O2 := zh o2; clear r2 o2 s2))
   go_ret
   refine ⟨⟨_, rfl, ?_⟩, B1.out.trans (O2.out.below (Nat.le_refl _) B1.out.size)⟩
   rw [HSH.out]
   refine ⟨_, _, by rw [List.length_append, List.length_replicate, <- HMK.out]; rfl, by rw [List.length_append, List.length_replicate, <- HMK.out]; exact Nat.le_refl _, ?_⟩
   have h := R2.out; rw [List.nil_append] at h
   have e : u8s (m ++ List.replicate k 0) = u8s m ++ List.replicate k (.int .u8 0) := by rw [zgl]; congr 1; rw [u8s, List.map_replicate]; rfl
   rw [e]; exact zbj h
theorem zex (N : Nat) : u8s (List.replicate N 0) = List.replicate N (.int .u8 0) := by rw [u8s, List.map_replicate]; rfl
theorem zbma (N : Nat) : hi N (sumf []) = List.replicate N 0 := (zev N).symm
def rsj (A C Q : List Nat) (k j n : Nat) : Nat := sq A n ^^^ cvj Q C k j n
theorem zbjx (A C Q : List Nat) (k n : Nat) : rsj A C Q k 0 n = rst A C Q k n := by rw [rsj, ztz]; rfl
theorem zbjv (A C Q : List Nat) (k n : Nat) : rsj A C Q k C.length n = rst A C Q (k + 1) n := by rw [rsj, zty]; rfl
theorem zbjw (A C Q : List Nat) (N k j : Nat) : (tab N (rsj A C Q k j)).set (k + j) (rsj A C Q k j (k + j) ^^^ gm (sq Q k) (sq C j)) = tab N (rsj A C Q k (j + 1)) := by
 rw [zdi]
 refine zap N fun n _ => ?_
 by_cases e : n = k + j
 .subst e
  rw [if_pos rfl, rsj, rsj, cvj, cvj, if_neg (by omega), if_pos (by omega), show k + j - k = j by omega, Nat.xor_zero, Nat.xor_assoc]
 .rw [if_neg e, rsj, rsj, cvj, cvj]
  by_cases h : k <= n ∧ n - k < j
  .rw [if_pos h, if_pos (by omega)]
  .rw [if_neg h, if_neg (by omega)]
theorem zboh {A C Q : List Nat} (hA : By A) (hC : By C) (hQ : By Q) (k j n : Nat) : rsj A C Q k j n < 256 := zbt (hA.sq n) (zbdw hQ hC k j n)
theorem zqz {w : World} {b off : Nat} {l : List Nat} (h : ∀ j u, (u8s l)[j]? = some u -> w.cell? ⟨b, off + j, none⟩ = some u) (j : Nat) (hj : j < l.length) : w.cell? ⟨b, off + j, none⟩ = some (.int .u8 (sq l j : Int)) := by
 rw [zas l j hj]; exact h j _ (zbs l j hj)
theorem zxl (b : Nat) (a c : Option Addr) (ca cc : Nat) (X Y : List Nat) (w : World) (hlx : X.length <= 1000000) (hly : Y.length <= 1000000) (h1 : X.length <= ca) (h2 : Y.length <= cc) (h0 : 0 < (beh Y).length) (hlt : (beh X).length < (beh Y).length)
  (hr : Lies w w.heap.size a (u8s X)) (hs : Lies w w.heap.size c (u8s Y)) :
  Calls Tryz.prog 139 #[.pointer (some ⟨b, 0, none⟩), .slice a X.length ca, .slice c Y.length cc] w fun e w' => (∃ v, e = .returned (.tuple #[.slice none 0 0, v, .bool true]) ∧ Reads w' v (beh X)) ∧ Below w.heap.size w w' := by
 have hbx := zcy X
 have hby := zcy Y
 have HC := zh (zee c cc Y w (by omega) h2 hs h0)
 have HB0 := zh (zmf a ca X w (by omega) h1 hr)
 have HB1 := zh (zee a ca X w (by omega) h1 hr)
 obtain ⟨A, hA⟩ : ∃ A, beh X = A := ⟨_, rfl⟩
 obtain ⟨C, hC⟩ : ∃ C, beh Y = C := ⟨_, rfl⟩
 rw [hA] at HB0 HB1 hlt hbx ⊢
 rw [hC] at HC hlt hby h0
 have hlti : (A.length : Int) < C.length := by omega
 have hc0 : ¬ (C.length : Int) = 0 := by omega
 have hc1 : ((C.length : Int) == 0) = false := beq_false_of_ne hc0
 have hAb : A.length <= 1000000 := by omega
 by_cases hA0 : A.length = 0
 .have HB := zh (HB0.out hA0)
  have hAe : A = [] := List.eq_nil_of_length_eq_zero hA0
  have HAE := zh hAe
  have hlt0 : (0 : Int) < C.length := by omega
  clear hr hs h0 hlt hbx hby hA hC hlti HB0 HB1 hAe hA0
  go_enter Tryz.func139, Tryz.ntmps139
  go_wp2_with (first
   | (go_at_call 165; (with_reducible refine HB.out.mono ?_); rintro e w1 ⟨rfl, rfl⟩)
   | (go_at_call 165; (with_reducible refine HC.out.mono ?_); rintro e w1 ⟨⟨gc, oc, c2, rfl, _, _⟩, rfl⟩)
   | (go_at_call 166; (with_reducible refine (zrf w).mono ?_); rintro e w1 ⟨rfl, rfl⟩))
  go_ret3
  exact ⟨⟨_, rfl, by rw [HAE.out]; exact Reads.nil _⟩, zb⟩
 .have HB := zh (HB1.out (by omega))
  have HA0 := zh hA0
  have HAB := zh hAb
  clear hr hs h0 hlt hbx hby hA hC HB0 HB1 hA0
  go_enter Tryz.func139, Tryz.ntmps139
  go_wp2_with (first
   | (go_at_call 165; (with_reducible refine HB.out.mono ?_); rintro e w1 ⟨⟨ga, oa, a2, rfl, _, hm⟩, rfl⟩; have HM := zh hm; clear hm)
   | (go_at_call 165; (with_reducible refine HC.out.mono ?_); rintro e w1 ⟨⟨gc, oc, c2, rfl, _, _⟩, rfl⟩)
   | (go_at_call 166; (with_reducible refine (zbdj (some ⟨ga, oa, none⟩) a2 A w HAB.out (fun h => absurd h HA0.out) HM.out).mono ?_); rintro e w2 ⟨⟨v, rfl, hv⟩, b2⟩; have HV := zh hv; have B2 := zh b2; clear hv b2))
  go_ret3
  exact ⟨⟨_, rfl, HV.out⟩, B2.out⟩
theorem zxm (b : Nat) (a c : Option Addr) (ca cc : Nat) (X Y : List Nat) (w : World) (hf : Fld w b) (hX : By X) (hY : By Y) (hlx : X.length <= 1000000) (hly : Y.length <= 1000000) (h1 : X.length <= ca) (h2 : Y.length <= cc) (h0 : 0 < (beh Y).length) (hge : (beh Y).length <= (beh X).length)
  (hr : Lies w w.heap.size a (u8s X)) (hs : Lies w w.heap.size c (u8s Y)) :
  Calls Tryz.prog 139 #[.pointer (some ⟨b, 0, none⟩), .slice a X.length ca, .slice c Y.length cc] w fun e w' =>
   (∃ v v2, e = .returned (.tuple #[v, v2, .bool true]) ∧ Reads w' v (qs (beh X) (beh Y) ((beh X).length - (beh Y).length + 1)) ∧
    Reads w' v2 (beh (tab (beh X).length (rst (beh X) (beh Y) (qs (beh X) (beh Y) ((beh X).length - (beh Y).length + 1)) ((beh X).length - (beh Y).length + 1))))) ∧ Below w.heap.size w w' := by
 have hbx := zcy X
 have hby := zcy Y
 have HB := zh (zee a ca X w (by omega) h1 hr (by omega))
 have HC := zh (zee c cc Y w (by omega) h2 hs h0)
 have hA8 := hX.beh
 have hC8 := hY.beh
 have hy0 := zgm Y h0
 obtain ⟨A, hA⟩ : ∃ A, beh X = A := ⟨_, rfl⟩
 obtain ⟨C, hC⟩ : ∃ C, beh Y = C := ⟨_, rfl⟩
 rw [hA] at HB hge hbx hA8
 rw [hC] at HC hge hby h0 hC8 hy0
 rw [hA, hC]
 obtain ⟨N, hN⟩ : ∃ N, A.length - C.length + 1 = N := ⟨_, rfl⟩
 rw [hN]
 have hNi : (A.length : Int) - (C.length : Int) + 1 = (N : Int) := by omega
 have hNb : (N : Int) <= 1000001 := by omega
 have hgei : ¬ (A.length : Int) < C.length := by omega
 have hgej : (C.length : Int) <= A.length := by omega
 have hc0 : ¬ (C.length : Int) = 0 := by omega
 have hc1 : ((C.length : Int) == 0) = false := beq_false_of_ne hc0
 have hcpos : 0 < (C.length : Int) := by omega
 have hcpn : 0 < C.length := by omega
 have hQ8 := zsz hA8 hC8 N
 have hQl := zdu A C N
 have hqst : ∀ k, k < N -> gm (rst A C (qs A C N) k k) (iv (sq C 0)) = sq (qs A C N) k := fun k hk => (zqq A C hk).symm
 obtain ⟨Q, hQ⟩ : ∃ Q, qs A C N = Q := ⟨_, rfl⟩
 rw [hQ] at hQ8 hQl hqst
 rw [hQ]
 have HAB : Hid (A.length <= 1000000) := zh (by omega)
 have HCB : Hid (C.length <= 1000000) := zh (by omega)
 have HA0 : Hid (0 < A.length) := zh (by omega)
 have HNL : Hid (A.length + 1 = N + C.length) := zh (by omega)
 have HA8 := zh hA8
 have HC8 := zh hC8
 have HQ8 := zh hQ8
 have HQL := zh hQl
 have HQST := zh hqst
 have HY0 := zh hy0
 have HF := zh hf
 have HI8 : Hid ((Tryz.prog.info? 5).map (fun i => (i.zero, i.size, i.bytes)) = some (some (.int .u8 0), 1, 8) ∨ (Tryz.prog.info? 5).map (fun i => (i.zero, i.size, i.bytes)) = some (some (.int .u8 0), 1, 1)) := zh (Or.inr zbx)
 have HS1 := zh zea
 have HLL : Hid (N <= N) := zh (Nat.le_refl _)
 have HLM0 : Hid (N <= 1099511627776) := zh (by omega)
 have HZC : Hid ((Value.int .u8 0).cells = #[.int .u8 0]) := zh rfl
 clear hr hs hf hX hY hbx hby hA hC hA8 hC8 hy0 hN hQ8 hQl hqst hQ h0 hge hlx hly
 go_enter Tryz.func139, Tryz.ntmps139
 go_wp2_with (first
  | (go_at_call 165; (with_reducible refine HB.out.mono ?_); rintro e w1 ⟨⟨ga, oa, a2, rfl, _, hm⟩, rfl⟩; have HM := zh hm; clear hm)
  | (go_at_call 165; (with_reducible refine HC.out.mono ?_); rintro e w1 ⟨⟨gc, oc, c2, rfl, _, hm⟩, rfl⟩; have HMC := zh hm; clear hm)
  | (go_at_call 166; (with_reducible refine (zgh ga oa a2 A w HAB.out HA0.out HM.out).mono ?_); rintro e w1 ⟨⟨gr, cr, rfl, hgr, hown⟩, b1⟩; have HGRW := zh hgr; have HOWN := zh hown; have B1 := zh b1; clear hgr hown b1)
  | ((with_reducible refine wpMakeK 107 5 (.int .u8 0) N N Tryz.underlying107 HI8.out HZC.out HLL.out HLM0.out ?_ ?_); rfl; intro w2 r2 b2 s2; have R2 := zh r2; have B2 := zh b2; clear r2 b2 s2))
 obtain ⟨gq, hgq⟩ : ∃ gq, gq = w1.heap.size := ⟨_, rfl⟩
 rw [<- hgq]
 obtain ⟨_, ys, hrow0⟩ := zql HOWN.out
 have hcr := (zha HOWN.out).2
 have HNE : Hid (gr ≠ gq) := zh (by have := hrow0.lt; omega)
 have HGQW : Hid (w.heap.size <= gq) := zh (by rw [hgq]; exact B1.out.size)
 have HCR := zh hcr
 have HR0 : Hid (Row w2 gr 5 (u8s (tab A.length (rst A C Q 0)) ++ ys)) := zh (by rw [zbjz]; exact hrow0.step B2.out)
 have HQ0 : Hid (Row w2 gq 5 (u8s (tab N (fun n => if n < 0 then sq Q n else 0)))) := zh (by
  rw [zap N (g := fun _ => 0) fun n _ => by rw [if_neg (by omega)], <- zev, zex, hgq]
  exact R2.out)
 have HB0 := zh (B1.out.next B2.out)
 clear hrow0 hcr hgq R2 B2 B1 HOWN HM HB HC
 go_loopw [42] (fun i wr => ∃ k : Nat, k <= N ∧ i = .int .i64 k ∧ Row wr gr 5 (u8s (tab A.length (rst A C Q k)) ++ ys) ∧ Row wr gq 5 (u8s (tab N (fun n => if n < k then sq Q n else 0))) ∧ Below w.heap.size w wr) (fun i _ => N - (intOf i).toNat)
 case atStart => exact ⟨0, Nat.zero_le _, rfl, HR0.out, HQ0.out, HB0.out⟩
 case round =>
  clear HR0 HQ0 HB0
  obtain ⟨k, hk, rfl, hrr, hrq, hbw⟩ := hrel
  by_cases hlt : k < N
  .have hk1 : (k : Int) < N := by omega
   have hk0 : 0 <= (k : Int) := by omega
   have hkA : (k : Int) < A.length := by have := HNL.out; omega
   obtain ⟨bc, oc', ec, hbc, hcc⟩ := HMC.out (by rw [zaf]; omega)
   cases ec
   have hcy : wr.cell? ⟨gc, oc, none⟩ = some (.int .u8 (sq C 0 : Int)) := (hbw.cell (p := ⟨gc, oc, none⟩) hbc).trans (by have := zqz hcc 0 (by omega); rwa [Nat.add_zero] at this)
   have hcx : wr.cell? ⟨gr, k, none⟩ = some (.int .u8 (rst A C Q k k : Int)) := by
    rw [hrr.cell, List.getElem?_append_left (by rw [zaf, zad]; omega), u8s, List.getElem?_map, zgt _ _ _ (by omega)]; rfl
   have hx8 := zbgm HA8.out HC8.out HQ8.out k k; have hy8 := HC8.out.sq 0; have hqe := HQST.out k hlt; have hy0 := HY0.out; obtain ⟨x, hx⟩ : ∃ x, rst A C Q k k = x := ⟨_, rfl⟩; obtain ⟨y, hy⟩ : ∃ y, sq C 0 = y := ⟨_, rfl⟩; rw [hx] at hcx hx8 hqe; rw [hy] at hcy hy8 hqe hy0
   have hDV0 : ∀ u, Fld u b -> Calls Tryz.prog 162 #[.pointer (some ⟨b, 0, none⟩), .int .u8 (x : Int), .int .u8 (y : Int)] u fun e w' => e = .returned (.tuple #[.int .u8 (gm x (iv y) : Int), .bool true]) ∧ Below u.heap.size u w' := fun u hfu => zzj b x y u hfu hx8 hy8 hy0
   have hq8 := HQ8.out.sq k; obtain ⟨q, hq⟩ : ∃ q, sq Q k = q := ⟨_, rfl⟩; rw [hqe, hq] at hDV0; rw [hq] at hq8; have HDV := zh hDV0
   have HFR : Hid (Fld wr b) := zh (HF.out.step hbw)
   have HGR : Hid (gr < wr.heap.size) := zh hrr.lt
   have HGC : Hid (gc < wr.heap.size) := zh (Nat.lt_of_lt_of_le hbc hbw.size)
   have HCX := zh hcx; have HCY := zh hcy
   have HRR : Hid (Row wr gr 5 (u8s (tab A.length (rsj A C Q k 0)) ++ ys)) := zh (by rw [zap A.length fun n _ => zbjx A C Q k n]; exact hrr)
   have HRQ := zh hrq; have HBW := zh hbw
   have HCZ : Hid (∀ u, Below wr.heap.size wr u -> ∃ z, u.cell? ⟨gq, k, none⟩ = some z) := zh fun u hu => ⟨_, by rw [(hrq.step hu).cell, u8s, List.getElem?_map, zgt _ _ _ hlt]; rfl⟩
   have HSTQ : Hid ((u8s (tab N (fun n => if n < k then sq Q n else 0))).set k (.int .u8 (q : Int)) = u8s (tab N (fun n => if n < k + 1 then sq Q n else 0))) := zh (by
    rw [zco, zdi]
    congr 1
    refine zap N fun n _ => ?_
    by_cases e : n = k
    .subst e; rw [if_pos rfl, if_pos (by omega), hq]
    .rw [if_neg e]
     by_cases h : n < k
     .rw [if_pos h, if_pos (by omega)]
     .rw [if_neg h, if_neg (by omega)])
   have HQ2 := zh hq; have HQB := zh hq8; clear hrr hrq hbw hcc hbc hcx hcy hx8 hy8 hqe hy0 hx hy hDV0 hq hq8; go_wp2
   refine zdv 15 [13] [(0, 46), (1, 47), (2, 48), (3, 49), (4, 50), (5, 51), (6, 52), (7, 53), (8, 54), (9, 55), (10, 56), (11, 45), (12, 57), (13, 58), (14, 59)]
    (fun i => [Is (.slice (some ⟨gq, 0, none⟩) N N), Is (.int .i64 (k : Int)), Is (.pointer (some ⟨b, 0, none⟩)), Is (.slice (some ⟨gr, 0, none⟩) A.length cr), Is (.int .i64 (k : Int)), Is (.pointer (some ⟨gr, k, none⟩)), Is (.int .u8 (x : Int)), Is (.slice (some ⟨gc, oc, none⟩) C.length c2), Is (.pointer (some ⟨gc, oc, none⟩)), Is (.int .u8 (y : Int)), Is (.tuple #[.int .u8 (q : Int), .bool true]), Is (.tuple #[.int .u8 (q : Int), .bool true]), Is (.int .u8 (q : Int)), Is (.bool true), Is (.pointer (some ⟨gq, k, none⟩))].getD i (Is undef))
    (fun w' => Below wr.heap.size wr w') (fun w' => Row w' gr 5 (u8s (tab A.length (rsj A C Q k 0)) ++ ys) ∧ Row w' gq 5 (u8s (tab N (fun n => if n < k + 1 then sq Q n else 0))) ∧ Below w.heap.size w w') (by kernel_rfl) rfl (by kernel_rfl) (by kernel_rfl) (by decide) (by decide) (by kernel_rfl) rfl rfl ?mono1 ((zb).drew) ?step1 ?stepX1 ?stepS1 ?fin1
   case mono1 =>
    intro i
    match i with
    | 0 | 1 | 2 | 3 | 4 | 5 | 6 | 7 | 8 | 9 | 10 | 11 | 12 | 13 | 14 => exact Is.monot _
    | _ + 15 => exact Is.monot _
   case step1 =>
    refine zf ⟨?p0, zf ⟨?p1, zf ⟨?p2, zf ⟨?p3, zf ⟨?p4, zf ⟨?p5, zf ⟨?p6, zf ⟨?p7, zf ⟨?p8, zf ⟨?p9, zf ⟨?p10, zf ⟨?p11, zf ⟨?p12, zf ⟨?p13, zf ⟨?p14, List.forall_mem_nil _⟩⟩⟩⟩⟩⟩⟩⟩⟩⟩⟩⟩⟩⟩⟩
    case p5 =>
     intro u wx hg hC; have hJ3 := zj hC 3; have hJ4 := zj hC 4; clear hC; refine wpOp_step rfl fun K hK => ?_
     simp only [zu, zv]; go_simp; exact zK hK hg
    case p6 =>
     intro u wx hg hC
     have hJ : u 5 = (.pointer (some ⟨gr, k, none⟩)) := hC.at 5 (by kernel_rfl)
     clear hC
     have hcl : wx.cell? ⟨gr, k, none⟩ = some (.int .u8 (x : Int)) := (hg.cell (p := ⟨gr, k, none⟩) HGR.out).trans HCX.out
     refine wpOp_step rfl fun K hK => ?_
     simp only [zu, zv]; go_simp; exact zK hK hg
    case p8 =>
     intro u wx hg hC; have hJ7 := zj hC 7; clear hC; refine wpOp_step rfl fun K hK => ?_
     simp only [zu, zv]; go_simp; exact zK hK hg
    case p9 =>
     intro u wx hg hC
     have hJ : u 8 = (.pointer (some ⟨gc, oc, none⟩)) := hC.at 8 (by kernel_rfl)
     clear hC
     have hcl : wx.cell? ⟨gc, oc, none⟩ = some (.int .u8 (y : Int)) := (hg.cell (p := ⟨gc, oc, none⟩) HGC.out).trans HCY.out
     refine wpOp_step rfl fun K hK => ?_
     simp only [zu, zv]; go_simp; exact zK hK hg
    case p10 =>
     intro u wx hg hC; have hJ2 := zj hC 2; have hJ6 := zj hC 6; have hJ9 := zj hC 9; clear hC; refine wpOp_step rfl fun K hK => ?_
     simp only [zu, zv]; go_simp
     refine (HDV.out wx (HFR.out.step hg)).mono ?_
     rintro e w' ⟨rfl, hb'⟩
     exact hK _ _ ⟨rfl, rfl, hg.next hb', hb'⟩
    case p11 =>
     intro u wx hg hC; have hJ10 := zj hC 10; clear hC; refine wpOp_step rfl fun K hK => ?_
     simp only [zu, zv]; go_simp; exact zK hK hg
    case p12 | p13 =>
     intro u wx hg hC; have hJ11 := zj hC 11; clear hC; refine wpOp_step rfl fun K hK => ?_
     simp only [zu, zv]; go_simp; exact zK hK hg
    case p14 =>
     intro u wx hg hC; have hJ0 := zj hC 0; have hJ1 := zj hC 1; clear hC; refine wpOp_step rfl fun K hK => ?_
     simp only [zu, zv]; go_simp; exact zK hK hg
    all_goals
     intro u wx hg hC; clear hC; refine wpOp_step rfl fun K hK => ?_
     simp only [zu, zv]; go_simp; exact zK hK hg
   case stepX1 =>
    rintro ⟨i, d⟩ hp hx u wx hh hC
    have hi13 : i = 13 := by simpa using hx
    subst hi13
    have hd58 : d = 58 := by simpa using hp
    subst hd58; obtain ⟨_, hJ11⟩ : ∃ w1, (Is (.tuple #[.int .u8 (q : Int), .bool true])) (u 11) w1 := hC.at 11 (by kernel_rfl)
    have hJ11' : u 11 = .tuple #[.int .u8 (q : Int), .bool true] := hJ11
    clear hC hJ11; refine wpOp_step rfl fun K hK => ?_
    simp only [zu, zv]; go_simp; exact hK _ _ ⟨rfl, ⟨wx, rfl⟩, hh⟩
   case stepS1 =>
    intro u w9 hbw9 hφ
    have h12 : u 12 = .int .u8 (q : Int) := hφ (12, 57) (by decide) (by decide)
    have h14 : u 14 = .pointer (some ⟨gq, k, none⟩) := hφ (14, 59) (by decide) (by decide)
    clear hφ; have RQ9 := HRQ.out.step hbw9; have RR9 := HRR.out.step hbw9; obtain ⟨z, hz⟩ : ∃ z, w9.cell? ⟨gq, k, none⟩ = some z := HCZ.out w9 hbw9; have hfz := RQ9.frozen k; have HQ9 := zh RQ9; have HR9 := zh RR9; have HB9 := zh hbw9; clear RQ9 RR9 hbw9; refine wpOp_step rfl fun K hK => ?_
    simp only [zu, zv]; go_simp
    refine hK _ _ ⟨rfl, HR9.out.far ⟨gq, k, none⟩ _ HNE.out, ?_, (HBW.out.next HB9.out).setCell (p := ⟨gq, k, none⟩) HGQW.out _⟩
    have h := HQ9.out.set k (.int .u8 (q : Int)); rw [HSTQ.out] at h; exact h
   case fin1 =>
    rintro u wq ⟨hrr, hrq, hbw2⟩ hφ
    clear hφ; simp only [zu, zv]; go_simp; have R0 := zh hrr; have Q0 := zh hrq; have B0 := zh hbw2; clear hrr hrq hbw2 HRR HRQ HBW HCZ HSTQ HCX HCY HGR HGC HDV HFR; go_wp2
    go_loopw [62] (fun i wr => ∃ j : Nat, j <= C.length ∧ i = .int .i64 j ∧ Row wr gr 5 (u8s (tab A.length (rsj A C Q k j)) ++ ys) ∧ Row wr gq 5 (u8s (tab N (fun n => if n < k + 1 then sq Q n else 0))) ∧ Below w.heap.size w wr) (fun i _ => C.length - (intOf i).toNat)
    case atStart => exact ⟨0, Nat.zero_le _, rfl, R0.out, Q0.out, B0.out⟩
    case round =>
     clear R0 Q0 B0; obtain ⟨j, hj, rfl, hrr, hrq, hbw⟩ := hrel
     by_cases hlj : j < C.length
     .have hj1 : (j : Int) < C.length := by omega
      have hj0 : 0 <= (j : Int) := by omega
      have hjb : (j : Int) <= 1000000 := by have := HCB.out; omega
      obtain ⟨bc, oc', ec, hbc, hcc⟩ := HMC.out (by rw [zaf]; omega)
      cases ec
      have hcell3 : wr.cell? ⟨gc, oc + j, none⟩ = some (.int .u8 (sq C j : Int)) := (hbw.cell (p := ⟨gc, oc + j, none⟩) hbc).trans (zqz hcc j hlj)
      obtain ⟨m, hm⟩ : ∃ m, k + j = m := ⟨_, rfl⟩
      have hmi : (k : Int) + (j : Int) = (m : Int) := by omega
      have hmL : m < A.length := by have := HNL.out; omega
      have hm1 : (m : Int) < A.length := by omega
      have hm0 : 0 <= (m : Int) := by omega
      have hmb := HAB.out
      have hmw : IntKind.i64.wrap (m : Int) = (m : Int) := by rw [IntKind.wrap_i64]; omega
      have hst := zbjw A C Q A.length k j; have hp8 := zboh HA8.out HC8.out HQ8.out k j m
      have hcp : wr.cell? ⟨gr, m, none⟩ = some (.int .u8 (rsj A C Q k j m : Int)) := by
       rw [hrr.cell, List.getElem?_append_left (by rw [zaf, zad]; exact hmL), u8s, List.getElem?_map, zgt _ _ _ hmL]; rfl
      have hcq : wr.cell? ⟨gq, k, none⟩ = some (.int .u8 (q : Int)) := by
       rw [hrq.cell, u8s, List.getElem?_map, zgt _ _ _ hlt, if_pos (by omega), HQ2.out]; rfl
      rw [hm, HQ2.out] at hst; have hd8 := HC8.out.sq j; have hq8 := HQB.out; obtain ⟨d, hd⟩ : ∃ d, sq C j = d := ⟨_, rfl⟩; rw [hd] at hst hcell3 hd8; have ht8 := zbb hq8 hd8; obtain ⟨p, hp⟩ : ∃ p, rsj A C Q k j m = p := ⟨_, rfl⟩; rw [hp] at hst hp8 hcp
      have HMU0 : ∀ (u : World) (b1 : Nat), Fld u b -> Lies u u.heap.size (some ⟨b1, 0, none⟩) [.int .u8 (q : Int), .int .u8 (d : Int)] -> Calls Tryz.prog 151 #[.pointer (some ⟨b, 0, none⟩), .slice (some ⟨b1, 0, none⟩) 2 2] u fun e w' => e = .returned (.int .u8 (gm q d : Int)) ∧ Below u.heap.size u w' := fun u b1 hf hl => zlu b b1 2 q d u hf hq8 hd8 hl
      obtain ⟨t, ht⟩ : ∃ t, gm q d = t := ⟨_, rfl⟩; rw [ht] at HMU0 hst ht8
      have HAD0 : ∀ (u : World) (b1 : Nat), Lies u u.heap.size (some ⟨b1, 0, none⟩) [.int .u8 (p : Int), .int .u8 (t : Int)] -> Calls Tryz.prog 150 #[.pointer (some ⟨b, 0, none⟩), .slice (some ⟨b1, 0, none⟩) 2 2] u fun e w' => e = .returned (.int .u8 ((p ^^^ t : Nat) : Int)) ∧ Below u.heap.size u w' := fun u b1 hl => (zpj b b1 2 p t u hp8 ht8 hl).mono fun _ u' h => ⟨h.1, by rw [<- h.2]; exact zb⟩
      obtain ⟨r, hr⟩ : ∃ r, p ^^^ t = r := ⟨_, rfl⟩; rw [hr] at HAD0 hst; have HMU := zh HMU0; have HAD := zh HAD0; have HCP := zh hcp; have HCQ := zh hcq; have HRR2 := zh hrr; have HRQ2 := zh hrq; have HBW2 := zh hbw
      have HGR2 : Hid (gr < wr.heap.size) := zh hrr.lt
      have HGQ2 : Hid (gq < wr.heap.size) := zh hrq.lt
      have HFR2 : Hid (Fld wr b) := zh (HF.out.step hbw)
      have HLM : Hid (m < (u8s (tab A.length (rsj A C Q k j)) ++ ys).length) := zh (by rw [List.length_append, zaf, zad]; omega)
      have HVC : Hid ((Value.int .u8 (r : Int)).cells = #[.int .u8 (r : Int)]) := zh rfl
      have HVO : Hid ((Value.int .u8 (r : Int)).oneCell' = true) := zh rfl
      have HST : Hid ((u8s (tab A.length (rsj A C Q k j)) ++ ys).set m (.int .u8 (r : Int)) = u8s (tab A.length (rsj A C Q k (j + 1))) ++ ys) := zh (by rw [List.set_append_left _ _ (by rw [zaf, zad]; exact hmL), zco, hst])
      clear HMU0 HAD0 hcp hcq hrr hrq hbw hst hp hr hd hcc hbc hm hmL hp8 hd8 hq8 ht8 ht hmb; go_wp2
      refine zdr 21 [(0, 67), (1, 68), (2, 69), (3, 70), (4, 71), (5, 72), (6, 73), (7, 74), (8, 75), (9, 76), (10, 77), (11, 78), (12, 79), (13, 80), (14, 81), (15, 82), (16, 83), (17, 84), (18, 85), (19, 86), (20, 87)]
       (fun i => [Is (.slice (some ⟨gr, 0, none⟩) A.length cr), Is (.int .i64 (k : Int)), Is (.int .i64 (j : Int)), Is (.int .i64 (m : Int)), Is (.pointer (some ⟨b, 0, none⟩)), Is (.slice (some ⟨gr, 0, none⟩) A.length cr), Is (.int .i64 (k : Int)), Is (.int .i64 (j : Int)), Is (.int .i64 (m : Int)), Is (.pointer (some ⟨gr, m, none⟩)), Is (.int .u8 (p : Int)), Is (.pointer (some ⟨b, 0, none⟩)), Is (.slice (some ⟨gq, 0, none⟩) N N), Is (.int .i64 (k : Int)), Is (.pointer (some ⟨gq, k, none⟩)), Is (.int .u8 (q : Int)), Is (.int .u8 (d : Int)), New [.int .u8 (q : Int), .int .u8 (d : Int)], Is (.int .u8 (t : Int)), New [.int .u8 (p : Int), .int .u8 (t : Int)], Is (.int .u8 (r : Int))].getD i (Is undef))
       (fun w' => Below wr.heap.size wr w') (by kernel_rfl) (by decide) (by kernel_rfl) (by kernel_rfl) (by kernel_rfl) (by decide) (by decide) (by kernel_rfl) rfl ?mono ((zb).drew) ?step ?fin
      case mono =>
       intro i
       match i with
       | 0 | 1 | 2 | 3 | 4 | 5 | 6 | 7 | 8 | 9 | 10 | 11 | 12 | 13 | 14 | 15 | 16 | 18 | 20 => exact Is.monot _
       | 17 | 19 => exact New.monot _
       | _ + 21 => exact Is.monot _
      case step =>
       refine zf ⟨?s0, zf ⟨?s1, zf ⟨?s2, zf ⟨?s3, zf ⟨?s4, zf ⟨?s5, zf ⟨?s6, zf ⟨?s7, zf ⟨?s8, zf ⟨?s9, zf ⟨?s10, zf ⟨?s11, zf ⟨?s12, zf ⟨?s13, zf ⟨?s14, zf ⟨?s15, zf ⟨?s16, zf ⟨?s17, zf ⟨?s18, zf ⟨?s19, zf ⟨?s20, List.forall_mem_nil _⟩⟩⟩⟩⟩⟩⟩⟩⟩⟩⟩⟩⟩⟩⟩⟩⟩⟩⟩⟩⟩
       case s3 =>
        intro u wx hg hC; have hJ1 := zj hC 1; have hJ2 := zj hC 2; clear hC; refine wpOp_step rfl fun K hK => ?_
        simp only [zu, zv]; go_simp; exact zK hK hg
       case s8 =>
        intro u wx hg hC; have hJ6 := zj hC 6; have hJ7 := zj hC 7; clear hC; refine wpOp_step rfl fun K hK => ?_
        simp only [zu, zv]; go_simp; exact zK hK hg
       case s9 =>
        intro u wx hg hC; have hJ5 := zj hC 5; have hJ8 := zj hC 8; clear hC; refine wpOp_step rfl fun K hK => ?_
        simp only [zu, zv]; go_simp; exact zK hK hg
       case s10 =>
        intro u wx hg hC
        have hJ : u 9 = (.pointer (some ⟨gr, m, none⟩)) := hC.at 9 (by kernel_rfl)
        clear hC
        have hcl : wx.cell? ⟨gr, m, none⟩ = some (.int .u8 (p : Int)) := (hg.cell (p := ⟨gr, m, none⟩) HGR2.out).trans HCP.out
        refine wpOp_step rfl fun K hK => ?_
        simp only [zu, zv]; go_simp; exact zK hK hg
       case s14 =>
        intro u wx hg hC; have hJ12 := zj hC 12; have hJ13 := zj hC 13; clear hC; refine wpOp_step rfl fun K hK => ?_
        simp only [zu, zv]; go_simp; exact zK hK hg
       case s15 =>
        intro u wx hg hC
        have hJ : u 14 = (.pointer (some ⟨gq, k, none⟩)) := hC.at 14 (by kernel_rfl)
        clear hC
        have hcl : wx.cell? ⟨gq, k, none⟩ = some (.int .u8 (q : Int)) := (hg.cell (p := ⟨gq, k, none⟩) HGQ2.out).trans HCQ.out
        refine wpOp_step rfl fun K hK => ?_
        simp only [zu, zv]; go_simp; exact zK hK hg
       case s17 =>
        intro u wx hg hC; have hJ15 := zj hC 15; have hJ16 := zj hC 16; clear hC; refine wpOp_step rfl fun K hK => ?_
        simp only [zu, zv]; go_simp; exact hK _ _ ⟨rfl, ⟨wx.heap.size, rfl, Lies.new [_, _] _ _⟩, hg.alloc hg.size _, zab _ _⟩
       case s18 =>
        intro u wx hg hC; have hJ11 := zj hC 11; obtain ⟨b1, h2, hl⟩ : New [.int .u8 (q : Int), .int .u8 (d : Int)] (u 17) wx := hC.at 17 (by kernel_rfl)
        clear hC
        simp only [List.length_cons, List.length_nil, Nat.zero_add, Nat.reduceAdd] at h2
        refine wpOp_step rfl fun K hK => ?_
        simp only [zu, zv]; go_simp
        refine (HMU.out wx b1 (HFR2.out.step hg) hl).mono ?_
        rintro e w' ⟨rfl, hb'⟩
        exact hK _ _ ⟨rfl, rfl, hg.next hb', hb'⟩
       case s19 =>
        intro u wx hg hC; have hJ10 := zj hC 10; have hJ18 := zj hC 18; clear hC; refine wpOp_step rfl fun K hK => ?_
        simp only [zu, zv]; go_simp; exact hK _ _ ⟨rfl, ⟨wx.heap.size, rfl, Lies.new [_, _] _ _⟩, hg.alloc hg.size _, zab _ _⟩
       case s20 =>
        intro u wx hg hC; have hJ4 := zj hC 4; obtain ⟨b1, h2, hl⟩ : New [.int .u8 (p : Int), .int .u8 (t : Int)] (u 19) wx := hC.at 19 (by kernel_rfl)
        clear hC
        simp only [List.length_cons, List.length_nil, Nat.zero_add, Nat.reduceAdd] at h2
        refine wpOp_step rfl fun K hK => ?_
        simp only [zu, zv]; go_simp
        refine (HAD.out wx b1 hl).mono ?_
        rintro e w' ⟨rfl, hb'⟩
        exact hK _ _ ⟨rfl, rfl, hg.next hb', hb'⟩
       all_goals
        intro u wx hg hC; clear hC; refine wpOp_step rfl fun K hK => ?_
        simp only [zu, zv]; go_simp
        refine hK _ _ ?_
        clear hK K
        first
         | (refine ⟨rfl, ?_, hg, zb⟩; rfl)
         | (refine ⟨rfl, ?_, hg.alloc hg.size _, zab _ _⟩; exact ⟨wx.heap.size, rfl, Lies.new [_] _ _⟩)
         | (refine ⟨rfl, ?_, hg.alloc hg.size _, zab _ _⟩; exact ⟨wx.heap.size, rfl, Lies.new [_, _] _ _⟩)
      case fin =>
       intro u w9 hbw9 hφ
       have h0 : u 0 = .slice (some ⟨gr, 0, none⟩) A.length cr := hφ (0, 67) (by decide)
       have h3 : u 3 = .int .i64 (m : Int) := hφ (3, 70) (by decide)
       have h20 : u 20 = .int .u8 (r : Int) := hφ (20, 87) (by decide)
       clear hφ; simp only [zu, zv]; go_simp; have R9 := zh (HRR2.out.step hbw9); have Q9 := zh (HRQ2.out.step hbw9); have B9 := zh hbw9; clear hbw9
       go_wp2_with (first
        | ((with_reducible refine R9.out.wpStore1K m 5 (.int .u8 (r : Int)) HS1.out HLM.out HVC.out HVO.out ?_ ?_); rfl; intro w2 r2 o2 s2; have R2 := zh r2; have O2 := zh o2; clear r2 o2 s2))
       go_roundw
       case rel => exact ⟨j + 1, by omega, by go_num, by have h := R2.out; rw [HST.out] at h; exact h, Q9.out.only O2.out (Ne.symm HNE.out), (HBW2.out.next B9.out).trans (O2.out.below HGRW.out (HBW2.out.next B9.out).size)⟩
       case measure => first | (simp [intOf]; done) | (simp [intOf]; omega)
     .have ej : j = C.length := by omega
      have HRR : Hid (Row wr gr 5 (u8s (tab A.length (rst A C Q (k + 1))) ++ ys)) := zh (by
       rw [<- zap A.length (fun n _ => zbjv A C Q k n), <- ej]; exact hrr)
      have HRQ := zh hrq; have HBW := zh hbw; clear hrr hrq hbw ej; go_wp2
      go_roundw
      case rel => exact ⟨k + 1, by omega, by go_num, HRR.out, HRQ.out, HBW.out⟩
      case measure => first | (simp [intOf]; done) | (simp [intOf]; omega)
  .have ek : k = N := by omega
   rw [ek] at hrr hrq
   have HVQ : Hid (Reads wr (.slice (some ⟨gq, 0, none⟩) N N) Q) := zh (by
    refine ⟨_, _, by rw [HQL.out], by rw [HQL.out]; exact Nat.le_refl _, ?_⟩
    have e : tab N (fun n => if n < N then sq Q n else 0) = Q := by
     have h := zjq Q; rw [HQL.out] at h; rw [<- h]
     refine zap N fun n hn => ?_
     rw [if_pos hn, h]
    rw [e] at hrq; exact zbj hrq)
   have hll : Lies wr wr.heap.size (some ⟨gr, 0, none⟩) (u8s (tab A.length (rst A C Q N))) := by
    have h := (zbj hrr); intro h3; obtain ⟨g2, o2, e2, h4, h5⟩ := h (by rw [List.length_append]; omega)
    exact ⟨g2, o2, e2, h4, fun j u hu => h5 j u (by rw [List.getElem?_append_left (List.getElem?_eq_some_iff.1 hu).1]; exact hu)⟩
   have HBE : Hid (Calls Tryz.prog 165 #[.slice (some ⟨gr, 0, none⟩) A.length cr] wr fun e w' => (∃ v, e = .returned v ∧ Reads wr v (beh (tab A.length (rst A C Q N)))) ∧ wr = w') := zh (by
    have h := zfb (some ⟨gr, 0, none⟩) cr (tab A.length (rst A C Q N)) wr (by rw [zad]; have := HAB.out; omega) (by rw [zad]; exact HCR.out) hll
    rw [zad] at h; exact h)
   have HBW := zh hbw; clear hrr hrq hbw ek hll
   go_wp2_with (go_at_call 165; (with_reducible refine HBE.out.mono ?_); rintro e w2 ⟨⟨v, rfl, hv⟩, rfl⟩; have HV := zh hv; clear hv)
   go_ret3; exact ⟨⟨_, _, rfl, HVQ.out, HV.out⟩, HBW.out⟩
theorem zod (b : Nat) (a c : Option Addr) (ca cc : Nat) (X Y : List Nat) (w : World) (hf : Fld w b) (hX : By X) (hY : By Y) (hlx : X.length <= 1000000) (hly : Y.length <= 1000000) (h1 : X.length <= ca) (h2 : Y.length <= cc) (h0 : 0 < (beh Y).length)
  (hr : Lies w w.heap.size a (u8s X)) (hs : Lies w w.heap.size c (u8s Y)) :
  Calls Tryz.prog 139 #[.pointer (some ⟨b, 0, none⟩), .slice a X.length ca, .slice c Y.length cc] w fun e w' =>
   (∃ v v2, e = .returned (.tuple #[v, v2, .bool true]) ∧ Reads w' v (dq X Y) ∧ Reads w' v2 (dr X Y)) ∧ Below w.heap.size w w' := by
 by_cases hlt : (beh X).length < (beh Y).length
 .have e1 : dq X Y = [] := by unfold dq; exact if_pos hlt
  have e2 : dr X Y = beh X := by unfold dr; exact if_pos hlt
  rw [e1, e2]
  exact (zxl b a c ca cc X Y w hlx hly h1 h2 h0 hlt hr hs).mono fun e w' ⟨⟨v, h3, h4⟩, h5⟩ => ⟨⟨_, v, h3, Reads.nil _, h4⟩, h5⟩
 .have e1 : dq X Y = qs (beh X) (beh Y) ((beh X).length - (beh Y).length + 1) := by unfold dq; exact if_neg hlt
  have e2 : dr X Y = beh (tab (beh X).length (rst (beh X) (beh Y) (dq X Y) ((beh X).length - (beh Y).length + 1))) := by unfold dr; exact if_neg hlt
  rw [e2, e1]
  exact zxm b a c ca cc X Y w hf hX hY hlx hly h1 h2 h0 (by omega) hr hs
theorem zlw : One Tryz.prog 3 := One.of (by kernel_rfl)
def nats (l : List Nat) : List Value := l.map fun n : Nat => Value.int .i64 (n : Int)
theorem zmo (l : List Nat) : (nats l).length = l.length := by simp [nats]
theorem zvb (l : List Nat) (j : Nat) (h : j < l.length) : (nats l)[j]? = some (.int .i64 (l[j] : Int)) := by simp [nats, h]
theorem zhq (l : List Nat) (n : Nat) : nats (l ++ [n]) = nats l ++ [.int .i64 (n : Int)] := by simp [nats]
def IReads (w : World) (v : Value) (l : List Nat) : Prop := ∃ a cap, v = .slice a l.length cap ∧ l.length <= cap ∧ Lies w w.heap.size a (nats l)
theorem IReads.step {w w' : World} {v : Value} {l : List Nat} (h : IReads w v l) (hb : Below w.heap.size w w') : IReads w' v l := by
 obtain ⟨a, cap, h1, h2, h3⟩ := h
 exact ⟨a, cap, h1, h2, h3.step hb⟩
theorem zld {w : World} {base : Nat} {v : Value} {n : Nat} {xs : List Value} {e : TypeId} (h : w.ownsRow base e 1 v n xs) : ∃ a cap, v = .slice a n cap ∧ n <= cap ∧ Lies w w.heap.size a xs := by
 obtain ⟨a, cap, rfl, hl⟩ := zjh h
 refine ⟨a, cap, rfl, ?_, hl⟩
 rcases h.2 with ⟨h1, h2⟩ | ⟨g', cap', cur, h1, h2, h3, h4, _⟩
 .omega
 .cases h1; exact h4
end
section
open Go.RowKit GfMath PolyMath RsMath
def codeL (b n k : Nat) (v : Value) : List Value := [.pointer (some ⟨b, 0, none⟩), .int .i64 (n : Int), .int .i64 (k : Int), v]
def Cor (w : World) (c b k p : Nat) (v : Value) : Prop := Row w c 158 (codeL b (k + p) k v) ∧ Fld w b
theorem Cor.step {w w' : World} {c b k p : Nat} {v : Value} (h : Cor w c b k p v) (hb : Below w.heap.size w w') : Cor w' c b k p v := ⟨h.1.step hb, h.2.step hb⟩
theorem Cor.c0 {w : World} {c b k p : Nat} {v : Value} (h : Cor w c b k p v) : w.cell? ⟨c, 0, none⟩ = some (.pointer (some ⟨b, 0, none⟩)) := by rw [h.1.cell]; rfl
theorem Cor.c1 {w : World} {c b k p : Nat} {v : Value} (h : Cor w c b k p v) : w.cell? ⟨c, 1, none⟩ = some (.int .i64 ((k + p : Nat) : Int)) := by rw [h.1.cell]; rfl
theorem Cor.c2 {w : World} {c b k p : Nat} {v : Value} (h : Cor w c b k p v) : w.cell? ⟨c, 2, none⟩ = some (.int .i64 (k : Int)) := by rw [h.1.cell]; rfl
theorem Cor.c3 {w : World} {c b k p : Nat} {v : Value} (h : Cor w c b k p v) : w.cell? ⟨c, 3, none⟩ = some v := by rw [h.1.cell]; rfl
theorem Cor.lt {w : World} {c b k p : Nat} {v : Value} (h : Cor w c b k p v) : c < w.heap.size := h.1.lt
structure Cod (w : World) (c b k p : Nat) : Prop where
 k1 : 1 <= k
 p1 : 1 <= p
 n255 : k + p <= 255
 p64 : p <= 64
 cor : ∃ a cap, Cor w c b k p (.slice a (p + 1) cap) ∧ p + 1 <= cap ∧ Lies w w.heap.size a (u8s (rt (exs p)))
theorem Cod.step {w w' : World} {c b k p : Nat} (h : Cod w c b k p) (hb : Below w.heap.size w w') : Cod w' c b k p := by
 obtain ⟨a, cap, h1, h2, h3⟩ := h.cor
 exact ⟨h.k1, h.p1, h.n255, h.p64, a, cap, h1.step hb, h2, h3.step hb⟩
theorem zek (c b k p : Nat) (v : Value) (w : World) (h : Cor w c b k p v) : Calls Tryz.prog 133 #[.pointer (some ⟨c, 0, none⟩)] w fun e w' => e = .returned (.bool false) ∧ w = w' := by
 have h0 := h.c0
 clear h
 go_enter Tryz.func133, Tryz.ntmps133
 go_wp2
 go_ret
 exact ⟨rfl, rfl⟩
theorem zie (c b k p : Nat) (v : Value) (w : World) (h : Cor w c b k p v) : Calls Tryz.prog 105 #[.pointer (some ⟨c, 0, none⟩)] w fun e w' => e = .returned (.tuple #[.int .i64 ((k + p : Nat) : Int), .int .i64 (k : Int)]) ∧ Below w.heap.size w w' := by
 have HN := zh (zek c b k p v w h)
 have h1 := h.c1
 have h2 := h.c2
 obtain ⟨n, hn⟩ : ∃ n, k + p = n := ⟨_, rfl⟩
 rw [hn] at h1 ⊢
 clear h hn
 go_enter Tryz.func105, Tryz.ntmps105
 go_wp2_with (go_at_call 133; (with_reducible refine HN.out.mono ?_); rintro e w1 ⟨rfl, rfl⟩)
 go_quiet (fail)
 go_wp2
 go_ret2
 exact ⟨rfl, (zb).drewN _⟩
theorem zbow (x : Nat) (w : World) : Calls Tryz.prog 98 #[.int .u8 (x : Int)] w fun e w' => e = .returned (.int .u8 (x : Int)) ∧ w = w' := by
 go_enter Tryz.func98, Tryz.ntmps98
 go_wp2
 go_ret
 exact ⟨rfl, rfl⟩
theorem zbbx (c b k p : Nat) (v : Value) (w : World) (h : Cor w c b k p v) (hn : k + p <= 255) :
  Calls Tryz.prog 97 #[.pointer (some ⟨c, 0, none⟩), .func (.func 98) #[] #[]] w fun e w' => (∃ g, e = .returned (.slice (some ⟨g, 0, none⟩) p p) ∧ w.heap.size <= g ∧ Row w' g 5 (u8s (tab p fun i => ex i))) ∧ Below w.heap.size w w' := by
 have h0 := h.c0
 have h1 := h.c1
 have h2 := h.c2
 have HLT : Hid (c < w.heap.size) := zh h.lt
 have HF := zh h.2
 obtain ⟨n, hnn⟩ : ∃ n, k + p = n := ⟨_, rfl⟩
 rw [hnn] at h1 hn
 have hsub : (n : Int) - (k : Int) = (p : Int) := by omega
 have hpb : (p : Int) <= 255 := by omega
 have hp0 : 0 <= (p : Int) := by omega
 have hpw : IntKind.i64.wrap (p : Int) = (p : Int) := by rw [IntKind.wrap_i64]; omega
 have hkb : (k : Int) <= 255 := by omega
 have hnb : (n : Int) <= 255 := by omega
 have HI8 : Hid ((Tryz.prog.info? 5).map (fun i => (i.zero, i.size, i.bytes)) = some (some (.int .u8 0), 1, 8) ∨ (Tryz.prog.info? 5).map (fun i => (i.zero, i.size, i.bytes)) = some (some (.int .u8 0), 1, 1)) := zh (Or.inr zbx)
 have HLL : Hid (p <= p) := zh (Nat.le_refl _)
 have HLM0 : Hid (p <= 1099511627776) := zh (by omega)
 have HZC : Hid ((Value.int .u8 0).cells = #[.int .u8 0]) := zh rfl
 have H8 := zh zea
 have HNN : Hid (k + p = n) := zh hnn
 clear h hnn
 go_enter Tryz.func97, Tryz.ntmps97
 go_wp2
 go_still_tail 9, (by kernel_rfl)
 change wpList _ _ _ _ _ w.drew
 have B0 : Hid (Below w.heap.size w w.drew) := zh (zb).drew
 have S0 : Hid (w.drew.heap.size = w.heap.size) := zh rfl
 generalize w.drew = wq at *
 go_wp2_with ((with_reducible refine wpMakeK 107 5 (.int .u8 0) p p Tryz.underlying107 HI8.out HZC.out HLL.out HLM0.out ?_ ?_); rfl; intro w1 r1 b1 s1; have R1 := zh r1; have B1 := zh b1; clear r1 b1 s1)
 obtain ⟨g, hg⟩ : ∃ g, wq.heap.size = g := ⟨_, rfl⟩
 rw [hg] at R1 ⊢
 have HB1 := zh (B0.out.trans (by have := B1.out; rw [S0.out] at this; exact this))
 have HG : Hid (w.heap.size <= g) := zh (by rw [<- hg, S0.out]; exact Nat.le_refl _)
 clear B0 B1 S0 hg
 go_loopw [19] (fun i wr => ∃ j : Nat, j <= p ∧ i = .int .i64 j ∧ Row wr g 5 (u8s (tab p fun i => if i < j then ex i else 0)) ∧ Below w.heap.size w wr) (fun i _ => p - (intOf i).toNat)
 case atStart => exact ⟨0, Nat.zero_le _, rfl, by have := R1.out; rw [<- zex, zev] at this; rw [zap p (g := fun _ => 0) (fun i _ => if_neg (by omega))]; exact this, HB1.out⟩
 case round =>
  clear R1 HB1
  obtain ⟨j, hj, rfl, hrow, hbw⟩ := hrel
  by_cases hlt : j < p
  .have hj1 : (j : Int) < p := by omega
   have hj2 : 0 <= (j : Int) := by omega
   have c0 : wr.cell? ⟨c, 0, none⟩ = some (.pointer (some ⟨b, 0, none⟩)) := (hbw.cell (p := ⟨c, 0, none⟩) HLT.out).trans h0
   have HFR : Hid (Fld wr b) := zh (HF.out.step hbw)
   have HE0 := zin b (j : Int) wr (HFR.out); rw [zlt] at HE0; have HE := zh HE0; have he8 := ex_lt j; obtain ⟨x, hx⟩ : ∃ x, ex j = x := ⟨_, rfl⟩; have HX := zh hx; rw [hx] at he8
   have HE1 : Hid (Calls Tryz.prog 130 #[.pointer (some ⟨b, 0, none⟩), .int .i64 (j : Int)] wr fun e w' => e = .returned (.int .u8 (x : Int)) ∧ Below wr.heap.size wr w') := zh (by have := HE.out; rw [hx] at this; exact this)
   have HR := zh hrow; have HB := zh hbw
   have HGW : Hid (g < wr.heap.size) := zh hrow.lt
   have HLJ : Hid (j < (u8s (tab p fun i => if i < j then ex i else 0)).length) := zh (by rw [zaf, zad]; exact hlt)
   obtain ⟨y, hy⟩ : ∃ y, x = y := ⟨_, rfl⟩
   have HST : Hid ((u8s (tab p fun i => if i < j then ex i else 0)).set j (.int .u8 (y : Int)) = u8s (tab p fun i => if i < j + 1 then ex i else 0)) := zh (by
    rw [zco, zdi]
    congr 1
    refine zap p fun i _ => ?_
    by_cases e : i = j
    .subst e
     rw [if_pos rfl, if_pos (by omega), <- hy, <- hx]
    .rw [if_neg e]
     by_cases h : i < j
     .rw [if_pos h, if_pos (by omega)]
     .rw [if_neg h, if_neg (by omega)])
   have HVC : Hid ((Value.int .u8 (y : Int)).cells = #[.int .u8 (y : Int)]) := zh rfl
   have HVO : Hid ((Value.int .u8 (y : Int)).oneCell' = true) := zh rfl
   have HID : Hid (∀ u : World, Calls Tryz.prog 98 #[.int .u8 (x : Int)] u fun e w' => e = .returned (.int .u8 (y : Int)) ∧ Below u.heap.size u w') := zh fun u => by rw [<- hy]; exact (zbow x u).mono fun e w' h => ⟨h.1, by rw [<- h.2]; exact zb⟩
   clear HE0 HE hx hrow hbw hy he8
   go_wp2_with (first
    | (go_at_call 130; (with_reducible refine HE1.out.mono ?_); rintro e u1 ⟨rfl, b1⟩; have U1 := zh (HB.out.next b1); have RU1 := zh (HR.out.step b1); have V1 := zh b1; clear b1)
    | (go_at_call 98; (with_reducible refine (HID.out u1).mono ?_); rintro e u2 ⟨rfl, b2⟩; have U2 := zh (U1.out.next b2); have RU2 := zh (RU1.out.step b2); clear b2)
    | ((with_reducible refine RU2.out.wpStore1K j 5 (.int .u8 (y : Int)) H8.out HLJ.out HVC.out HVO.out ?_ ?_); rfl; intro u3 r3 o3 s3; have R3 := zh r3; have O3 := zh o3; clear r3 o3 s3))
   go_roundw
   case rel => exact ⟨j + 1, by omega, by go_num, by have h := R3.out; rw [HST.out] at h; exact h, U2.out.trans (O3.out.below HG.out U2.out.size)⟩
   case measure => first | (simp [intOf]; done) | (simp [intOf]; omega)
  .have ej : j = p := by omega
   have HR : Hid (Row wr g 5 (u8s (tab p fun i => ex i))) := zh (by
    rw [ej] at hrow; rw [<- zap p (f := fun i => if i < p then ex i else 0) (fun i hi => if_pos hi)]
    exact hrow)
   have HB := zh hbw; clear hrow hbw ej; go_wp2; go_ret; exact ⟨⟨_, rfl, HG.out, HR.out⟩, HB.out⟩
theorem zbov (c b k p : Nat) (v : Value) (b1 b2 : Nat) (a : Option Addr) (cap : Nat) (l : List Nat) (x : Nat) (w : World) (h : Cor w c b k p v) (hn : k + p <= 255) (hl : l.length <= 1000) (hby : By l) (hx : x < 256) (hr : Lies w w.heap.size a (u8s l))
  (q1 : w.cell? ⟨b1, 0, none⟩ = some (.pointer (some ⟨c, 0, none⟩))) (q2 : w.cell? ⟨b2, 0, none⟩ = some (.slice a l.length cap)) :
  Calls Tryz.prog 173 #[.int .u8 (x : Int), .pointer (some ⟨b1, 0, none⟩), .pointer (some ⟨b2, 0, none⟩)] w fun e w' => e = .returned (.int .u8 (ev l x : Int)) ∧ Below w.heap.size w w' := by
 have h0 := h.c0
 have HE : Hid (∀ u : World, Below w.heap.size w u -> Calls Tryz.prog 174 #[.pointer (some ⟨b, 0, none⟩), .slice a l.length cap, .int .u8 (x : Int)] u fun e w' => e = .returned (.int .u8 (ev l x : Int)) ∧ Below u.heap.size u w') := zh fun u hu => zug b a cap l x u (h.2.step hu) hby hx (by omega) (hr.step hu)
 have B0 : Hid (Below w.heap.size w w.drew) := zh (zb).drew
 have HX : Hid (∀ m, ev l x = m -> True) := zh fun _ _ => trivial
 obtain ⟨y, hy⟩ : ∃ y, ev l x = y := ⟨_, rfl⟩
 rw [hy] at HE ⊢
 obtain ⟨L, hL⟩ : ∃ L, l.length = L := ⟨_, rfl⟩
 rw [hL] at HE q2
 clear h hy hr hby hl hx HX hL
 go_enter Tryz.func173, Tryz.ntmps173
 go_wp2
 go_still_tail 6, (by kernel_rfl)
 change wpList _ _ _ _ _ w.drew
 generalize w.drew = wq at *
 go_wp2_with (go_at_call 174; (with_reducible refine (HE.out _ B0.out).mono ?_); rintro e u1 ⟨rfl, b1'⟩; have U1 := zh (B0.out.next b1'); clear b1')
 go_ret
 exact ⟨rfl, U1.out⟩
theorem zbbw (c b k p : Nat) (v : Value) (b1 b2 : Nat) (a : Option Addr) (cap : Nat) (l : List Nat) (w : World) (h : Cor w c b k p v) (hn : k + p <= 255) (hl : l.length <= 1000) (hby : By l) (hcap : l.length <= cap) (hr : Lies w w.heap.size a (u8s l)) (hb1 : b1 < w.heap.size) (hb2 : b2 < w.heap.size) (q1 : w.cell? ⟨b1, 0, none⟩ = some (.pointer (some ⟨c, 0, none⟩))) (q2 : w.cell? ⟨b2, 0, none⟩ = some (.slice a l.length cap)) :
  Calls Tryz.prog 97 #[.pointer (some ⟨c, 0, none⟩), .func (.func 173) #[] #[.pointer (some ⟨b1, 0, none⟩), .pointer (some ⟨b2, 0, none⟩)]] w fun e w' => (∃ g, e = .returned (.slice (some ⟨g, 0, none⟩) p p) ∧ w.heap.size <= g ∧ Row w' g 5 (u8s (tab p fun i => ev l (ex i)))) ∧ Below w.heap.size w w' := by
 have h0 := h.c0
 have h1 := h.c1
 have h2 := h.c2
 have HLT : Hid (c < w.heap.size) := zh h.lt
 have HF := zh h.2
 obtain ⟨n, hnn⟩ : ∃ n, k + p = n := ⟨_, rfl⟩
 rw [hnn] at h1 hn
 have hsub : (n : Int) - (k : Int) = (p : Int) := by omega
 have hpb : (p : Int) <= 255 := by omega
 have hp0 : 0 <= (p : Int) := by omega
 have hpw : IntKind.i64.wrap (p : Int) = (p : Int) := by rw [IntKind.wrap_i64]; omega
 have hkb : (k : Int) <= 255 := by omega
 have hnb : (n : Int) <= 255 := by omega
 have HI8 : Hid ((Tryz.prog.info? 5).map (fun i => (i.zero, i.size, i.bytes)) = some (some (.int .u8 0), 1, 8) ∨ (Tryz.prog.info? 5).map (fun i => (i.zero, i.size, i.bytes)) = some (some (.int .u8 0), 1, 1)) := zh (Or.inr zbx)
 have HLL : Hid (p <= p) := zh (Nat.le_refl _)
 have HLM0 : Hid (p <= 1099511627776) := zh (by omega)
 have HZC : Hid ((Value.int .u8 0).cells = #[.int .u8 0]) := zh rfl
 have H8 := zh zea
 have HNN : Hid (k + p = n) := zh hnn
 have HRL := zh hr
 have HBY := zh hby
 have HQ1 := zh q1
 have HQ2 := zh q2
 have HCO := zh h
 clear hr q1 q2 hby
 clear h hnn
 go_enter Tryz.func97, Tryz.ntmps97
 go_wp2
 go_still_tail 9, (by kernel_rfl)
 change wpList _ _ _ _ _ w.drew
 have B0 : Hid (Below w.heap.size w w.drew) := zh (zb).drew
 have S0 : Hid (w.drew.heap.size = w.heap.size) := zh rfl
 generalize w.drew = wq at *
 go_wp2_with ((with_reducible refine wpMakeK 107 5 (.int .u8 0) p p Tryz.underlying107 HI8.out HZC.out HLL.out HLM0.out ?_ ?_); rfl; intro w1 r1 b1 s1; have R1 := zh r1; have B1 := zh b1; clear r1 b1 s1)
 obtain ⟨g, hg⟩ : ∃ g, wq.heap.size = g := ⟨_, rfl⟩
 rw [hg] at R1 ⊢
 have HB1 := zh (B0.out.trans (by have := B1.out; rw [S0.out] at this; exact this))
 have HG : Hid (w.heap.size <= g) := zh (by rw [<- hg, S0.out]; exact Nat.le_refl _)
 clear B0 B1 S0 hg
 go_loopw [19] (fun i wr => ∃ j : Nat, j <= p ∧ i = .int .i64 j ∧ Row wr g 5 (u8s (tab p fun i => if i < j then ev l (ex i) else 0)) ∧ Below w.heap.size w wr) (fun i _ => p - (intOf i).toNat)
 case atStart => exact ⟨0, Nat.zero_le _, rfl, by have := R1.out; rw [<- zex, zev] at this; rw [zap p (g := fun _ => 0) (fun i _ => if_neg (by omega))]; exact this, HB1.out⟩
 case round =>
  clear R1 HB1
  obtain ⟨j, hj, rfl, hrow, hbw⟩ := hrel
  by_cases hlt : j < p
  .have hj1 : (j : Int) < p := by omega
   have hj2 : 0 <= (j : Int) := by omega
   have c0 : wr.cell? ⟨c, 0, none⟩ = some (.pointer (some ⟨b, 0, none⟩)) := (hbw.cell (p := ⟨c, 0, none⟩) HLT.out).trans h0
   have HFR : Hid (Fld wr b) := zh (HF.out.step hbw)
   have HE0 := zin b (j : Int) wr (HFR.out); rw [zlt] at HE0; have HE := zh HE0; have he8 := ex_lt j; obtain ⟨x, hx⟩ : ∃ x, ex j = x := ⟨_, rfl⟩; have HX := zh hx; rw [hx] at he8
   have HE1 : Hid (Calls Tryz.prog 130 #[.pointer (some ⟨b, 0, none⟩), .int .i64 (j : Int)] wr fun e w' => e = .returned (.int .u8 (x : Int)) ∧ Below wr.heap.size wr w') := zh (by have := HE.out; rw [hx] at this; exact this)
   have HR := zh hrow; have HB := zh hbw
   have HGW : Hid (g < wr.heap.size) := zh hrow.lt
   have HLJ : Hid (j < (u8s (tab p fun i => if i < j then ev l (ex i) else 0)).length) := zh (by rw [zaf, zad]; exact hlt)
   obtain ⟨y, hy⟩ : ∃ y, ev l x = y := ⟨_, rfl⟩
   have HST : Hid ((u8s (tab p fun i => if i < j then ev l (ex i) else 0)).set j (.int .u8 (y : Int)) = u8s (tab p fun i => if i < j + 1 then ev l (ex i) else 0)) := zh (by
    rw [zco, zdi]
    congr 1
    refine zap p fun i _ => ?_
    by_cases e : i = j
    .subst e
     rw [if_pos rfl, if_pos (by omega), <- hy, <- hx]
    .rw [if_neg e]
     by_cases h : i < j
     .rw [if_pos h, if_pos (by omega)]
     .rw [if_neg h, if_neg (by omega)])
   have HVC : Hid ((Value.int .u8 (y : Int)).cells = #[.int .u8 (y : Int)]) := zh rfl
   have HVO : Hid ((Value.int .u8 (y : Int)).oneCell' = true) := zh rfl
   have HID : Hid (∀ u : World, Below wr.heap.size wr u -> Calls Tryz.prog 173 #[.int .u8 (x : Int), .pointer (some ⟨b1, 0, none⟩), .pointer (some ⟨b2, 0, none⟩)] u fun e w' => e = .returned (.int .u8 (y : Int)) ∧ Below u.heap.size u w') := zh fun u hu => by
    have hu2 := HB.out.next hu; rw [<- hy]; exact zbov c b k p v b1 b2 a cap l x u (HCO.out.step hu2) (by omega) hl HBY.out he8 ((HRL.out.step hu2)) ((hu2.cell (p := ⟨b1, 0, none⟩) hb1).trans HQ1.out) ((hu2.cell (p := ⟨b2, 0, none⟩) hb2).trans HQ2.out)
   clear HE0 HE hx hrow hbw hy he8
   go_wp2_with (first
    | (go_at_call 130; (with_reducible refine HE1.out.mono ?_); rintro e u1 ⟨rfl, b1⟩; have U1 := zh (HB.out.next b1); have RU1 := zh (HR.out.step b1); have V1 := zh b1; clear b1)
    | (go_at_call 173; (with_reducible refine (HID.out u1 V1.out).mono ?_); rintro e u2 ⟨rfl, b2⟩; have U2 := zh (U1.out.next b2); have RU2 := zh (RU1.out.step b2); clear b2)
    | ((with_reducible refine RU2.out.wpStore1K j 5 (.int .u8 (y : Int)) H8.out HLJ.out HVC.out HVO.out ?_ ?_); rfl; intro u3 r3 o3 s3; have R3 := zh r3; have O3 := zh o3; clear r3 o3 s3))
   go_roundw
   case rel => exact ⟨j + 1, by omega, by go_num, by have h := R3.out; rw [HST.out] at h; exact h, U2.out.trans (O3.out.below HG.out U2.out.size)⟩
   case measure => first | (simp [intOf]; done) | (simp [intOf]; omega)
  .have ej : j = p := by omega
   have HR : Hid (Row wr g 5 (u8s (tab p fun i => ev l (ex i)))) := zh (by
    rw [ej] at hrow; rw [<- zap p (f := fun i => if i < p then ev l (ex i) else 0) (fun i hi => if_pos hi)]
    exact hrow)
   have HB := zh hbw; clear hrow hbw ej; go_wp2; go_ret; exact ⟨⟨_, rfl, HG.out, HR.out⟩, HB.out⟩
theorem zqr : (Tryz.prog.info? 107).map (·.size) = some 1 := by kernel_rfl
theorem Lies.onlyNe {w w' : World} {g : Nat} {a : Option Addr} {xs : List Value} (h : Lies w w.heap.size a xs) (ho : Only g w w') (hne : ∀ x, a = some x -> 0 < xs.length -> x.block ≠ g) : Lies w' w'.heap.size a xs := by
 intro hx
 obtain ⟨b, off, e, hlt, hc⟩ := h hx
 have hb : b ≠ g := hne _ e hx
 refine ⟨b, off, e, Nat.lt_of_lt_of_le hlt ho.size, fun j u hu => ?_⟩
 have := hc j u hu
 simp only [World.cell?] at this ⊢
 rw [ho.2.2.2.2 b hlt hb]
 exact this
theorem Lies.noCode {w : World} {c b n k : Nat} {v : Value} {a : Option Addr} {l : List Nat} (h : Lies w w.heap.size a (u8s l)) (hr : Row w c 158 (codeL b n k v)) (hv : ∀ x : Nat, v ≠ .int .u8 (x : Int)) : ∀ x, a = some x -> 0 < (u8s l).length -> x.block ≠ c := by
 intro x hx h0 he
 obtain ⟨b2, off, e, hlt, hc⟩ := h h0
 rw [hx] at e
 cases e
 have h1 := hc 0 _ (zbs l 0 (by rw [zaf] at h0; exact h0))
 rw [show b2 = c from he, hr.cell] at h1
 simp only [Nat.add_zero, codeL] at h1
 match off, h1 with
 | 0, h1 => simp at h1
 | 1, h1 => simp at h1
 | 2, h1 => simp at h1
 | 3, h1 => simp at h1; exact hv _ h1
 | _ + 4, h1 => simp at h1
theorem zbgl (b k p : Nat) (w : World) (hf : Fld w b) (hk : 1 <= k) (hp : 1 <= p) (hn : k + p <= 255) (hp64 : p <= 64) :
  Calls Tryz.prog 62 #[.pointer (some ⟨b, 0, none⟩), .int .i64 ((k + p : Nat) : Int), .int .i64 (k : Int)] w fun e w' =>
   (∃ c, e = .returned (.tuple #[.pointer (some ⟨c, 0, none⟩), .int .i64 0]) ∧ Cod w' c b k p) ∧ Below w.heap.size w w' := by
 have HF := zh hf
 have HK : Hid (1 <= k) := zh hk
 have HP : Hid (1 <= p) := zh hp
 have HN : Hid (k + p <= 255) := zh hn
 obtain ⟨n, hnn⟩ : ∃ n, k + p = n := ⟨_, rfl⟩
 have HNN : Hid (k + p = n) := zh hnn
 have h1 : ¬ (k : Int) < 1 := by omega
 have h2 : ¬ (n : Int) <= (k : Int) := by omega
 have h2b : (k : Int) < (n : Int) := by omega
 have h3 : ¬ (n : Int) > 255 := by omega
 have h4 : (n : Int) - (k : Int) = (p : Int) := by omega
 have h5 : ¬ (p : Int) > 64 := by omega
 have hkb : (k : Int) <= 255 := by omega
 rw [hnn] at hn ⊢
 have HEA : Hid (∀ (u : World) (c : Nat), Row u c 158 (codeL b n k (.slice none 0 0)) -> Fld u b -> Calls Tryz.prog 97 #[.pointer (some ⟨c, 0, none⟩), .func (.func 98) #[] #[]] u fun e w' => (∃ g, e = .returned (.slice (some ⟨g, 0, none⟩) p p) ∧ u.heap.size <= g ∧ Row w' g 5 (u8s (exs p))) ∧ Below u.heap.size u w') := zh fun u c h1 h2 => zbbx c b k p _ u (by rw [<- HNN.out] at h1; exact ⟨h1, h2⟩) HN.out
 have HRO : Hid (∀ (u : World) (g : Nat), Row u g 5 (u8s (exs p)) -> Fld u b -> Calls Tryz.prog 96 #[.pointer (some ⟨b, 0, none⟩), .slice (some ⟨g, 0, none⟩) p p] u fun e w' => (∃ a cap, e = .returned (.slice a (p + 1) cap) ∧ p + 1 <= cap ∧ Lies w' w'.heap.size a (u8s (rt (exs p)))) ∧ Below u.heap.size u w') := zh fun u g h1 h2 => by
  have h := zbgj b (some ⟨g, 0, none⟩) p (exs p) u h2 (zeh p) (by rw [zdl]; omega) (zbj h1)
  rw [zdl] at h
  refine h.mono fun e w' ⟨⟨v, h3, a, cap, h4, h5, h6⟩, h7⟩ => ?_
  have hl := (zdw (exs p) (zeh p)).2.1
  rw [zdl] at hl
  rw [hl] at h4 h5
  exact ⟨⟨a, cap, by rw [h3, h4], h5, h6⟩, h7⟩
 have HB1 := zh zqr
 obtain ⟨w1, hw1⟩ : ∃ w1, w1 = w.alloc (.cells #[.pointer (some ⟨b, 0, none⟩), .int .i64 (n : Int), .int .i64 (k : Int), .slice none 0 0] 158) := ⟨_, rfl⟩
 have R0 : Hid (Row w1 w.heap.size 158 (codeL b n k (.slice none 0 0))) := zh (by rw [hw1]; exact Row.new w _ _)
 have B0 : Hid (Below w.heap.size w w1) := zh (by rw [hw1]; exact zab _ _)
 have HEW : Hid (Calls Tryz.prog 97 #[.pointer (some ⟨w.heap.size, 0, none⟩), .func (.func 98) #[] #[]] (w.alloc (.cells #[.pointer (some ⟨b, 0, none⟩), .int .i64 (n : Int), .int .i64 (k : Int), .slice none 0 0] 158)) fun e w' => (∃ g, e = .returned (.slice (some ⟨g, 0, none⟩) p p) ∧ w.heap.size < g ∧ Row w' g 5 (u8s (exs p)) ∧ Row w' w.heap.size 158 (codeL b n k (.slice none 0 0)) ∧ Fld w' b) ∧ Below w.heap.size w w') := zh (by
  rw [<- hw1]
  refine (HEA.out w1 w.heap.size R0.out (HF.out.step B0.out)).mono fun e w' ⟨⟨g, h1, h2, h3⟩, h4⟩ => ⟨⟨g, h1, ?_, h3, R0.out.step h4, (HF.out.step B0.out).step h4⟩, B0.out.next h4⟩
  have := R0.out.lt
  omega)
 have HLC : Hid (3 < (codeL b n k (.slice none 0 0)).length) := zh (by show 3 < 4; omega)
 clear hf hk hp hnn hw1 R0 B0 HEA
 go_enter Tryz.func62, Tryz.ntmps62
 go_wp2_with (first
  | (go_at_call 97; (with_reducible refine HEW.out.mono ?_); rintro e u1 ⟨⟨g, rfl, g0, r1, rc1, f1⟩, b1⟩; have G0 := zh g0; have R1 := zh r1; have RC1 := zh rc1; have F1 := zh f1; have B1 := zh b1; clear g0 r1 rc1 f1 b1)
  | (go_at_call 96; (with_reducible refine (HRO.out u1 g R1.out F1.out).mono ?_); rintro e u2 ⟨⟨a, cap, rfl, hcap, hl⟩, b2⟩; have HCA := zh hcap; have HL := zh hl; have RC2 := zh (RC1.out.step b2); have F2 := zh (F1.out.step b2); have B2 := zh (B1.out.next b2); clear hcap hl b2)
  | ((with_reducible refine RC2.out.wpStore1K 3 107 (.slice a (p + 1) cap) HB1.out HLC.out rfl rfl ?_ ?_); rfl; intro u3 r3 o3 s3; have R3 := zh r3; have O3 := zh o3; clear r3 o3 s3))
 go_ret2
 refine ⟨⟨_, rfl, HK.out, HP.out, HN.out, hp64, a, cap, ⟨by have := R3.out; rw [HNN.out]; exact this, F2.out.only O3.out (fun h => ?_)⟩, HCA.out, HL.out.onlyNe O3.out (HL.out.noCode RC2.out (fun x h => by cases h))⟩, B2.out.trans (O3.out.below (Nat.le_refl _) B2.out.size)⟩
 have := HF.out.lt
 omega
end
end Go.Proofs.YtojimgbcghiblaaGreatDoor