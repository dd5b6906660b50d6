/- The document's Sum: what its walk uses (gen_sha_sum.py). -/
import Derived.Test.YtmphjmbnfaimiaaDoorShaX1
import Derived.Test.YtmphjmbnfaimiaaDoorShaZA
import Derived.Test.YtmphjmbnfaimiaaDoorSliceT
import Derived.Test.YtmphjmbnfaimiaaDoorShaE
namespace Go.Proofs.YtmphjmbnfaimiaaDoor
open Go.RowKit ShaMath
set_option linter.unusedVariables false
set_option maxRecDepth 100000

def lenV : Value → Nat | .slice _ n _ => n | _ => 0
def tIs (l : List W) : List Value := l.map fun x => .int .i64 (tI x)
theorem tIs_length (l : List W) : (tIs l).length = l.length := by simp [tIs]
theorem tIs_get (l : List W) (j : Nat) (h : j < l.length) : (tIs l)[j]? = some (.int .i64 (tI l[j])) := by simp [tIs, h]
theorem sx_zero_hash : ∀ u, (zeroValue 31).run Tryd.prog u = .ok (.agg (List.replicate 32 (Value.int .u8 0)).toArray) u := fun u => by kernel_rfl
theorem sx_one_byte : One Tryd.prog 5 := One.of (by kernel_rfl)
theorem sx_one_int : One Tryd.prog 3 := One.of (by kernel_rfl)
/-- The schedule while it is made: i of its words are there. -/
def wst (b : List UInt8) (i : Nat) : List W := if i ≤ 16 then loaded b (4 * i) else sch b (i - 16)
theorem sx_own_all {w : World} {base : Nat} {v : Value} {n : Nat} {xs : List Value} {e : TypeId} (h : w.ownsRow base e 1 v n xs) (h0 : 0 < n) : ∃ g cap ys, v = .slice (some ⟨g, 0, none⟩) n cap ∧ base ≤ g ∧ n ≤ cap ∧ Row w g e (xs ++ ys) := by
  rcases h.2 with ⟨h1, h2⟩ | ⟨g, cap, cur, h1, h2, h3, h4, h5, h6, h7⟩
  · omega
  · refine ⟨g, cap, cur.toList.drop n, h1, h2, h4, ?_⟩
    rw [Nat.mul_one] at h7
    rw [← h7, List.take_append_drop]
    exact h3
/-- What a round reads. -/
def KC (u : World) (vg bx kb ko r wg cb : Nat) (A B C D E F G H K W : Int) : Prop :=
  u.cell? ⟨vg, 0, none⟩ = some (.int .i64 A) ∧ u.cell? ⟨vg, 1, none⟩ = some (.int .i64 B) ∧ u.cell? ⟨vg, 2, none⟩ = some (.int .i64 C) ∧ u.cell? ⟨vg, 3, none⟩ = some (.int .i64 D) ∧
  u.cell? ⟨vg, 4, none⟩ = some (.int .i64 E) ∧ u.cell? ⟨vg, 5, none⟩ = some (.int .i64 F) ∧ u.cell? ⟨vg, 6, none⟩ = some (.int .i64 G) ∧ u.cell? ⟨vg, 7, none⟩ = some (.int .i64 H) ∧
  u.cell? ⟨bx, 1, none⟩ = some (.slice (some ⟨kb, ko, none⟩) 64 cb) ∧ u.cell? ⟨kb, ko + r, none⟩ = some (.int .i64 K) ∧ u.cell? ⟨wg, r, none⟩ = some (.int .i64 W)
theorem KC.drewN {u : World} {vg bx kb ko r wg cb : Nat} {A B C D E F G H K W : Int} (h : KC u vg bx kb ko r wg cb A B C D E F G H K W) (n : Nat) : KC (u.drewN n) vg bx kb ko r wg cb A B C D E F G H K W := h
theorem KC.drew {u : World} {vg bx kb ko r wg cb : Nat} {A B C D E F G H K W : Int} (h : KC u vg bx kb ko r wg cb A B C D E F G H K W) : KC u.drew vg bx kb ko r wg cb A B C D E F G H K W := h
theorem Only.newer {g k : Nat} {a b c : World} (h : Only g a b) (ho : Only k b c) (hk : a.heap.size ≤ k) : Only g a c :=
  ⟨ho.1.trans h.1, ho.2.1.trans h.2.1, ho.2.2.1.trans h.2.2.1, Nat.le_trans h.size ho.size, fun j hj hne => (ho.2.2.2.2 j (Nat.lt_of_lt_of_le hj h.size) (by omega)).trans (h.2.2.2.2 j hj hne)⟩
theorem eightB_next (n i : Nat) (h : i < 8) : (eightB n).take (i + 1) = (eightB n).take i ++ [UInt8.ofNat (n / 256 ^ (7 - i) % 256)] := by
  rw [take_snoc _ i (by rw [eightB_length]; exact h)]
  simp [eightB]
theorem sx_next (T : List UInt8) (k : Nat) (hT : T.length = 32) (h : k < 32) (b : UInt8) (hb : T[k]? = some b) : (bytes (T.take k ++ List.replicate (32 - k) 0)).set k (.int .u8 (b.toNat : Int)) = bytes (T.take (k + 1) ++ List.replicate (32 - (k + 1)) 0) := by
  have hx' : T[k]'(by omega) = b := by rw [List.getElem?_eq_getElem (by omega)] at hb; exact Option.some.inj hb
  have e : T.take (k + 1) ++ List.replicate (32 - (k + 1)) 0 = (T.take k ++ List.replicate (32 - k) 0).set k b := by
    rw [List.set_append_right _ _ (by simp; omega)]
    have e1 : 32 - k = (32 - (k + 1)) + 1 := by omega
    have e2 : k - (T.take k).length = 0 := by simp; omega
    rw [e1, List.replicate_succ, e2, List.set_cons_zero, List.take_succ_eq_append_getElem (by omega), hx', List.append_assoc]
    rfl
  rw [e]
  simp [bytes, List.map_set]
theorem pad_next (L : List UInt8) (j : Nat) : bytes (L ++ 128 :: List.replicate (j + 1) 0) = bytes (L ++ 128 :: List.replicate j 0) ++ [.int .u8 0] := by
  rw [List.replicate_succ', ← List.cons_append, ← List.append_assoc, bytes_append]
  rfl
theorem tail_next (L : List UInt8) (n i : Nat) (h : i < 8) : bytes (L ++ (eightB n).take (i + 1)) = bytes (L ++ (eightB n).take i) ++ [.int .u8 ((n / 256 ^ (7 - i) % 256 : Nat) : Int)] := by
  rw [eightB_next n i h, ← List.append_assoc, bytes_append]
  congr 1
  simp only [bytes, List.map_cons, List.map_nil]
  rw [UInt8.toNat_ofNat', Nat.mod_eq_of_lt (Nat.mod_lt _ (by omega))]
end Go.Proofs.YtmphjmbnfaimiaaDoor
