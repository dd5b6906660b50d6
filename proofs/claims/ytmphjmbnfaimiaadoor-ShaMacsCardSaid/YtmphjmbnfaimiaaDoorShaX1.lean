/- Words as numbers: what the document's Sum reckons. -/
import Derived.Test.YtmphjmbnfaimiaaDoorShaS
namespace Go.Proofs.YtmphjmbnfaimiaaDoor
open Go.RowKit ShaMath

theorem tI_nat (x : W) : tI x = (x.toNat : Int) := rfl
theorem tI_lt (x : W) : 0 ≤ tI x ∧ tI x < 4294967296 := ⟨by unfold tI; omega, by have := x.isLt; unfold tI; omega⟩
theorem xor_tI (a b : W) : bits .xor .i64 (tI a) (tI b) = tI (a ^^^ b) := by
  have ha := a.isLt; have hb := b.isLt
  unfold tI
  rw [xor_i64 _ _ (by omega) (by omega), BitVec.toNat_xor]
theorem and_tI (a b : W) : bits .and .i64 (tI a) (tI b) = tI (a &&& b) := by
  have ha := a.isLt; have hb := b.isLt
  unfold tI
  rw [and_i64 _ _ (by omega) (by omega), BitVec.toNat_and]
theorem or_tI (a b : W) : bits .or .i64 (tI a) (tI b) = tI (a ||| b) := by
  have ha := a.isLt; have hb := b.isLt
  unfold tI
  rw [or_i64 _ _ (by omega) (by omega), BitVec.toNat_or]
theorem shr_tI (x : W) (n : Nat) : tI x / 2 ^ n = tI (x >>> n) := by
  unfold tI
  rw [BitVec.toNat_ushiftRight, Nat.shiftRight_eq_div_pow]
  simp
theorem not_tI (e : W) : 4294967295 - tI e = tI (~~~e) := by
  have he := e.isLt
  unfold tI
  rw [BitVec.toNat_not]
  omega
theorem sum2_tI (a b : W) : (tI a + tI b) % 4294967296 = tI (a + b) := by unfold tI; rw [BitVec.toNat_add]; omega
theorem sum4_tI (a b c d : W) : (tI a + tI b + tI c + tI d) % 4294967296 = tI (b + c + a + d) := by unfold tI; simp only [BitVec.toNat_add]; omega
/-- The schedule's next word. -/
theorem ext_tI (w : List W) (t : Nat) : (tI (ss0 (w.getD (t - 15) 0)) + tI (ss1 (w.getD (t - 2) 0)) + tI (w.getD (t - 7) 0) + tI (w.getD (t - 16) 0)) % 4294967296 = tI (ext w t) := by
  unfold ext tI
  simp only [BitVec.toNat_add]
  omega
/-- The two of a turn's words that are reckoned. -/
theorem t12_tI (h e c k w a m : W) : (tI h + tI e + tI c + tI k + tI w + (tI a + tI m)) % 4294967296 = tI (h + e + c + (k + w) + (a + m)) := by
  unfold tI
  simp only [BitVec.toNat_add]
  omega
theorem dt1_tI (d h e c k w : W) : (tI d + (tI h + tI e + tI c + tI k + tI w)) % 4294967296 = tI (d + (h + e + c + (k + w))) := by
  unfold tI
  simp only [BitVec.toNat_add]
  omega
/-- A byte taken into a word that has room. -/
theorem take8_nat (x : W) (c : UInt8) (h : x.toNat < 16777216) : ((x <<< 8) ||| ex c).toNat = x.toNat * 256 + c.toNat := by
  have hc := c.toNat_lt
  rw [BitVec.toNat_or, BitVec.toNat_shiftLeft, ex_toNat, Nat.shiftLeft_eq, Nat.mod_eq_of_lt (by omega)]
  rw [show x.toNat * 2 ^ 8 = x.toNat <<< 8 from (Nat.shiftLeft_eq _ _).symm, ← Nat.shiftLeft_add_eq_or_of_lt (by omega), Nat.shiftLeft_eq]
theorem take8_tI (x : W) (c : UInt8) (h : x.toNat < 16777216) : 256 * tI x + (c.toNat : Int) = tI ((x <<< 8) ||| ex c) := by
  have := take8_nat x c h
  unfold tI
  omega
theorem word4_room : ∀ l : List UInt8, l.length ≤ 4 → (word4 l).toNat < 256 ^ l.length := by
  intro l
  induction l using snoc_ind with
  | h0 => intro _; decide
  | h1 l c ih =>
    intro h
    rw [List.length_append, List.length_singleton] at h
    have h1 := ih (by omega)
    have h3 : 256 ^ l.length ≤ 256 ^ 3 := Nat.pow_le_pow_right (by omega) (by omega)
    have hc := c.toNat_lt
    rw [word4_snoc, take8_nat _ _ (by omega), List.length_append, List.length_singleton, Nat.pow_succ]
    omega
theorem loaded_room (b : List UInt8) (i : Nat) (hb : b.length = 64) (hi : i < 64) : ((loaded b i).getD (i / 4) 0).toNat < 16777216 := by
  have hl : i / 4 < (loaded b i).length := by rw [loaded_length]; omega
  rw [List.getD_eq_getElem?_getD, List.getElem?_eq_getElem hl, loaded_get]
  have hlen : (((b.take i).drop (4 * (i / 4))).take 4).length ≤ 3 := by
    rw [List.length_take, List.length_drop, List.length_take]
    omega
  have h := word4_room _ (by omega : (((b.take i).drop (4 * (i / 4))).take 4).length ≤ 4)
  have h3 : 256 ^ (((b.take i).drop (4 * (i / 4))).take 4).length ≤ 256 ^ 3 := Nat.pow_le_pow_right (by omega) hlen
  simp only [Option.getD_some]
  omega
end Go.Proofs.YtmphjmbnfaimiaaDoor
