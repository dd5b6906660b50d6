/- SHA-256 as plain mathematics: words, turns, blocks; the padding; a tag by a key. -/
namespace Go.Proofs.YtmphjmbnfaimiaaDoor.ShaMath

abbrev W := BitVec 32
/-- x turned right by n. -/
def rr (x : W) (n : Nat) : W := (x >>> n) ||| (x <<< (32 - n))
def bs1 (e : W) : W := rr e 6 ^^^ rr e 11 ^^^ rr e 25
def bs0 (a : W) : W := rr a 2 ^^^ rr a 13 ^^^ rr a 22
def ss0 (x : W) : W := rr x 7 ^^^ rr x 18 ^^^ x >>> 3
def ss1 (x : W) : W := rr x 17 ^^^ rr x 19 ^^^ x >>> 10
def ch (e f g : W) : W := (e &&& f) ^^^ (~~~e &&& g)
def maj (a b c : W) : W := (a &&& b) ^^^ (a &&& c) ^^^ (b &&& c)
/-- One turn, its word and its root summed in kw. -/
def trn (l : List W) (kw : W) : List W :=
  match l with
  | [a, b, c, d, e, f, g, h] => [h + bs1 e + ch e f g + kw + (bs0 a + maj a b c), a, b, c, d + (h + bs1 e + ch e f g + kw), e, f, g]
  | l => l

def first : List W := [0x6a09e667#32, 0xbb67ae85#32, 0x3c6ef372#32, 0xa54ff53a#32, 0x510e527f#32, 0x9b05688c#32, 0x1f83d9ab#32, 0x5be0cd19#32]
def roots : List W := [
  0x428a2f98#32, 0x71374491#32, 0xb5c0fbcf#32, 0xe9b5dba5#32, 0x3956c25b#32, 0x59f111f1#32, 0x923f82a4#32, 0xab1c5ed5#32,
  0xd807aa98#32, 0x12835b01#32, 0x243185be#32, 0x550c7dc3#32, 0x72be5d74#32, 0x80deb1fe#32, 0x9bdc06a7#32, 0xc19bf174#32,
  0xe49b69c1#32, 0xefbe4786#32, 0x0fc19dc6#32, 0x240ca1cc#32, 0x2de92c6f#32, 0x4a7484aa#32, 0x5cb0a9dc#32, 0x76f988da#32,
  0x983e5152#32, 0xa831c66d#32, 0xb00327c8#32, 0xbf597fc7#32, 0xc6e00bf3#32, 0xd5a79147#32, 0x06ca6351#32, 0x14292967#32,
  0x27b70a85#32, 0x2e1b2138#32, 0x4d2c6dfc#32, 0x53380d13#32, 0x650a7354#32, 0x766a0abb#32, 0x81c2c92e#32, 0x92722c85#32,
  0xa2bfe8a1#32, 0xa81a664b#32, 0xc24b8b70#32, 0xc76c51a3#32, 0xd192e819#32, 0xd6990624#32, 0xf40e3585#32, 0x106aa070#32,
  0x19a4c116#32, 0x1e376c08#32, 0x2748774c#32, 0x34b0bcb5#32, 0x391c0cb3#32, 0x4ed8aa4a#32, 0x5b9cca4f#32, 0x682e6ff3#32,
  0x748f82ee#32, 0x78a5636f#32, 0x84c87814#32, 0x8cc70208#32, 0x90befffa#32, 0xa4506ceb#32, 0xbef9a3f7#32, 0xc67178f2#32]
theorem first_length : first.length = 8 := rfl
theorem roots_length : roots.length = 64 := rfl

/-- A byte as a word. -/
def ex (b : UInt8) : W := BitVec.ofNat 32 b.toNat
theorem ex_toNat (b : UInt8) : (ex b).toNat = b.toNat := by
  have := b.toNat_lt
  rw [ex, BitVec.toNat_ofNat]
  omega
def word4 (l : List UInt8) : W := l.foldl (fun x c => (x <<< 8) ||| ex c) 0#32
theorem word4_snoc (l : List UInt8) (c : UInt8) : word4 (l ++ [c]) = (word4 l <<< 8) ||| ex c := by simp [word4]

/-- The 64 words when the first i bytes of a block have gone into them. -/
def loaded (b : List UInt8) (i : Nat) : List W := (List.range 64).map fun j => word4 (((b.take i).drop (4 * j)).take 4)
theorem loaded_length (b : List UInt8) (i : Nat) : (loaded b i).length = 64 := by simp [loaded]
theorem loaded_get (b : List UInt8) (i j : Nat) (h : j < (loaded b i).length) : (loaded b i)[j] = word4 (((b.take i).drop (4 * j)).take 4) := by simp [loaded]
theorem loaded_zero (b : List UInt8) : loaded b 0 = List.replicate 64 0#32 := by
  apply List.ext_getElem
  · simp [loaded]
  · intro j h1 h2
    rw [loaded_get, List.getElem_replicate, List.take_zero, List.drop_nil, List.take_nil]
    rfl
theorem loaded_step (b : List UInt8) (i : Nat) (hi : i < b.length) (hq : i / 4 < (loaded b i).length) :
    loaded b (i + 1) = (loaded b i).set (i / 4) (((loaded b i)[i / 4] <<< 8) ||| ex b[i]) := by
  apply List.ext_getElem
  · simp [loaded]
  · intro j h1 h2
    rw [List.getElem_set, loaded_get, List.take_succ_eq_append_getElem hi]
    by_cases e : i / 4 = j
    · rw [if_pos e]
      subst e
      rw [loaded_get, ← word4_snoc]
      congr 1
      have hl : (b.take i).length = i := by simp; omega
      rw [List.drop_append_of_le_length (by omega), List.take_append]
      have h3 : ((b.take i).drop (4 * (i / 4))).length = i % 4 := by rw [List.length_drop, hl]; omega
      rw [h3]
      congr 1
      rw [List.take_of_length_le]
      simp
      omega
    · rw [if_neg e, loaded_get]
      congr 1
      have hl : (b.take i).length = i := by simp; omega
      by_cases hlt : 4 * j ≤ i
      · rw [List.drop_append_of_le_length (by omega), List.take_append_of_le_length]
        rw [List.length_drop, hl]
        omega
      · rw [List.drop_of_length_le (by simp; omega), List.drop_of_length_le (by omega)]

def ext (w : List W) (t : Nat) : W := ss1 (w.getD (t - 2) 0) + w.getD (t - 7) 0 + ss0 (w.getD (t - 15) 0) + w.getD (t - 16) 0
/-- .. and when k more are made of them. -/
def sch (b : List UInt8) : Nat → List W
  | 0 => loaded b 64
  | k + 1 => (sch b k).set (16 + k) (ext (sch b k) (16 + k))
theorem sch_length (b : List UInt8) (k : Nat) : (sch b k).length = 64 := by
  induction k with
  | zero => exact loaded_length _ _
  | succ k ih => rw [sch, List.length_set, ih]
/-- W of a block. -/
def spr (b : List UInt8) : List W := sch b 48
theorem spr_length (b : List UInt8) : (spr b).length = 64 := sch_length _ _

theorem trn_length (l : List W) (kw : W) : (trn l kw).length = l.length := by
  unfold trn
  split <;> rfl
/-- k turns. -/
def trns (w l : List W) : Nat → List W
  | 0 => l
  | k + 1 => trn (trns w l k) (roots.getD k 0 + w.getD k 0)
theorem trns_length (w l : List W) (k : Nat) : (trns w l k).length = l.length := by
  induction k with
  | zero => rfl
  | succ k ih => rw [trns, trn_length, ih]
/-- Sums, the first k of them. -/
def addK (l v : List W) (k : Nat) : List W := (List.zipWith (· + ·) l v).take k ++ l.drop k
theorem addK_length (l v : List W) (k : Nat) (h : l.length = v.length) : (addK l v k).length = l.length := by
  simp [addK]; omega
theorem addK_zero (l v : List W) : addK l v 0 = l := by simp [addK]
theorem addK_get (l v : List W) (k : Nat) (h : l.length = v.length) (hk : k < l.length) : (addK l v k)[k]'(by rw [addK_length l v k h]; exact hk) = l[k] := by
  simp only [addK]
  rw [List.getElem_append_right (by simp; omega)]
  rw [List.getElem_drop]
  congr 1
  simp
  omega
theorem addK_step (l v : List W) (k : Nat) (h : l.length = v.length) (hk : k < l.length) : addK l v (k + 1) = (addK l v k).set k (l[k] + v[k]'(by omega)) := by
  simp only [addK]
  have h1 : ((List.zipWith (· + ·) l v).take k).length = k := by simp; omega
  rw [List.take_succ_eq_append_getElem (by simp; omega), List.getElem_zipWith, List.set_append_right _ _ (by omega), h1, Nat.sub_self, List.append_assoc]
  congr 1
  rw [List.drop_eq_getElem_cons hk, List.set_cons_zero]
  rfl
/-- What a block makes of the words. -/
def mixed (l : List W) (b : List UInt8) : List W := addK l (trns (spr b) l 64) 8
theorem mixed_length (l : List W) (b : List UInt8) : (mixed l b).length = l.length := by rw [mixed, addK_length _ _ _ (trns_length _ _ _).symm]

/-- The words behind the first n blocks. -/
def blk (l : List UInt8) : Nat → List W
  | 0 => first
  | n + 1 => mixed (blk l n) ((l.drop (64 * n)).take 64)
theorem blk_length (l : List UInt8) (n : Nat) : (blk l n).length = 8 := by
  induction n with
  | zero => rfl
  | succ n ih => rw [blk, mixed_length, ih]
theorem blk_append (l m : List UInt8) (n : Nat) (h : 64 * n ≤ l.length) : blk (l ++ m) n = blk l n := by
  induction n with
  | zero => rfl
  | succ n ih =>
    rw [blk, blk, ih (by omega), List.drop_append_of_le_length (by omega), List.take_append_of_le_length (by rw [List.length_drop]; omega)]

/-- A number in eight bytes, the highest first. -/
def eightB (n : Nat) : List UInt8 := (List.range 8).map fun i => UInt8.ofNat (n / 256 ^ (7 - i) % 256)
theorem eightB_length (n : Nat) : (eightB n).length = 8 := by simp [eightB]
/-- What follows n bytes. -/
def tailL (n : Nat) : List UInt8 := 128 :: (List.replicate ((119 - n % 64) % 64) 0 ++ eightB (8 * n))
theorem tailL_length (n : Nat) : (tailL n).length = 9 + (119 - n % 64) % 64 := by simp [tailL, eightB_length]; omega
def padL (l : List UInt8) : List UInt8 := l ++ tailL l.length
theorem padL_mod (l : List UInt8) : (padL l).length % 64 = 0 := by rw [padL, List.length_append, tailL_length]; omega

/-- Words as bytes. -/
def hashB (h : List W) : List UInt8 := (List.range 32).map fun i => UInt8.ofNat ((h.getD (i / 4) 0 >>> (24 - 8 * (i % 4))).toNat % 256)
theorem hashB_length (h : List W) : (hashB h).length = 32 := by simp [hashB]
/-- The digest. -/
def sha (l : List UInt8) : List UInt8 := hashB (blk (padL l) ((padL l).length / 64))
theorem sha_length (l : List UInt8) : (sha l).length = 32 := hashB_length _

/-- A key, filled with noughts to 64 bytes, held against x. -/
def agn (key : List UInt8) (x : UInt8) : List UInt8 := (key ++ List.replicate (64 - key.length) 0).map (· ^^^ x)
/-- The tag of a text by a key. -/
def mac (key l : List UInt8) : List UInt8 :=
  let k := if 64 < key.length then sha key else key
  sha (agn k 92 ++ sha (agn k 54 ++ l))

theorem ch_or (e f g : W) : (e &&& f) ||| (~~~e &&& g) = ch e f g := by
  apply BitVec.eq_of_getLsbD_eq
  intro i hi
  simp only [ch, BitVec.getLsbD_or, BitVec.getLsbD_and, BitVec.getLsbD_not, BitVec.getLsbD_xor, hi, decide_true, Bool.true_and]
  cases e.getLsbD i <;> cases f.getLsbD i <;> cases g.getLsbD i <;> rfl
theorem maj_or (a b c : W) : (a &&& b) ||| (a &&& c) ||| (b &&& c) = maj a b c := by
  apply BitVec.eq_of_getLsbD_eq
  intro i hi
  simp [maj]
  cases a.getLsbD i <;> cases b.getLsbD i <;> cases c.getLsbD i <;> rfl

def digs : List UInt8 := [48, 49, 50, 51, 52, 53, 54, 55, 56, 57, 97, 98, 99, 100, 101, 102]
def hexB (l : List UInt8) : List UInt8 := l.flatMap fun b => [digs.getD (b.toNat / 16) 0, digs.getD (b.toNat % 16) 0]
theorem hexB_length (l : List UInt8) : (hexB l).length = 2 * l.length := by
  induction l with
  | nil => rfl
  | cons a l ih => rw [hexB, List.flatMap_cons, List.length_append]; show 2 + (hexB l).length = _; rw [ih, List.length_cons]; omega
set_option maxRecDepth 100000 in
theorem abc_hex : (hexB (sha [97, 98, 99])).take 8 = [98, 97, 55, 56, 49, 54, 98, 102] := by decide +kernel

/-- What a digest that has begun holds of what it took. -/
structure Begun (l : List UInt8) (h : List W) (r : List UInt8) : Prop where
  eight : h.length = 8
  block : r.length = 64
  words : h = blk l (l.length / 64)
  rest : r.take (l.length % 64) = l.drop (64 * (l.length / 64))
theorem Begun.step {l : List UInt8} {h : List W} {r : List UInt8} (H : Begun l h r) (x : List UInt8) (hx : 0 < x.length) (q : Nat) (hq : l.length % 64 = q) :
    (q + x.length < 64 → Begun (l ++ x) h (r.take q ++ x ++ r.drop (q + x.length))) ∧
    (q + x.length = 64 → Begun (l ++ x) (mixed h (r.take q ++ x ++ r.drop (q + x.length))) (r.take q ++ x ++ r.drop (q + x.length))) := by
  have hb := H.block
  have hr := H.rest
  rw [hq] at hr
  have hll := Nat.div_add_mod l.length 64
  have h1 : (r.take q).length = q := by simp; omega
  have hl : (l ++ x).length = l.length + x.length := List.length_append
  refine ⟨fun hs => ?_, fun hs => ?_⟩
  · have ed : (l ++ x).length / 64 = l.length / 64 := by rw [hl]; omega
    have em : (l ++ x).length % 64 = q + x.length := by rw [hl]; omega
    refine ⟨H.eight, by simp; omega, ?_, ?_⟩
    · rw [ed, blk_append _ _ _ (by omega)]
      exact H.words
    · rw [ed, em, List.drop_append_of_le_length (by omega), ← hr, List.take_append_of_le_length (by simp; omega), List.take_of_length_le (by simp; omega)]
  · have ed : (l ++ x).length / 64 = l.length / 64 + 1 := by rw [hl]; omega
    have em : (l ++ x).length % 64 = 0 := by rw [hl]; omega
    have e3 : r.take q ++ x ++ r.drop (q + x.length) = r.take q ++ x := by rw [List.drop_of_length_le (by omega), List.append_nil]
    rw [e3]
    refine ⟨by rw [mixed_length]; exact H.eight, by simp; omega, ?_, ?_⟩
    · rw [ed, blk, blk_append _ _ _ (by omega), ← H.words, List.drop_append_of_le_length (by omega), ← hr, List.take_of_length_le (l := r.take q ++ x) (by simp; omega)]
    · rw [em, ed, List.take_zero, List.drop_of_length_le (by rw [hl]; omega)]
/-- .. one that may not have begun yet. -/
structure Held (l : List UInt8) (h : List W) (r : List UInt8) : Prop where
  eight : h.length = 8
  block : r.length = 64
  begun : l ≠ [] → Begun l h r
theorem Begun.held {l : List UInt8} {h : List W} {r : List UInt8} (H : Begun l h r) : Held l h r := ⟨H.eight, H.block, fun _ => H⟩
theorem Held.nil (h : List W) (r : List UInt8) (h1 : h.length = 8) (h2 : r.length = 64) : Held [] h r := ⟨h1, h2, fun h => absurd rfl h⟩
theorem Begun.nil (r : List UInt8) (h2 : r.length = 64) : Begun [] first r := ⟨rfl, h2, rfl, rfl⟩
/-- What is told of a digest that took the tail, too. -/
theorem Begun.sha {l : List UInt8} {h : List W} {r : List UInt8} (H : Begun (l ++ tailL l.length) h r) : hashB h = sha l := by rw [ShaMath.sha, H.words]; rfl

end Go.Proofs.YtmphjmbnfaimiaaDoor.ShaMath
