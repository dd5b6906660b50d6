/- Contracts of the document's Cut, Of, at, Bytes, Same. -/
import Derived.Test.YtpkjannlndnfdaaPolyH
import Derived.Test.YtpkjannlndnfdaaPolyMath3
namespace Go.Proofs.Ytpkjannlndnfdaa
open Go.RowKit GfMath PolyMath
set_option linter.unusedVariables false

theorem one_int : One Try.prog 3 := One.of (by kernel_rfl)
/-- Numbers as int values. -/
def nats (l : List Nat) : List Value := l.map fun n : Nat => Value.int .i64 (n : Int)
theorem nats_length (l : List Nat) : (nats l).length = l.length := by simp [nats]
theorem nats_get (l : List Nat) (j : Nat) (h : j < l.length) : (nats l)[j]? = some (.int .i64 (l[j] : Int)) := by simp [nats, h]
theorem nats_snoc (l : List Nat) (n : Nat) : nats (l ++ [n]) = nats l ++ [.int .i64 (n : Int)] := by simp [nats]
theorem nats_set (l : List Nat) (j : Nat) (x : Nat) : (nats l).set j (.int .i64 (x : Int)) = nats (l.set j x) := by simp [nats, List.map_set]
theorem u8s_snoc (l : List Nat) (n : Nat) : u8s (l ++ [n]) = u8s l ++ [.int .u8 (n : Int)] := by simp [u8s]
theorem nats_sq {w : World} {b off : Nat} {B : Nat} {l : List Nat} (h : ∀ j u, (nats l)[j]? = some u → w.cell? ⟨b, off + j, none⟩ = some u) (j : Nat) (hj : j < l.length) : w.cell? ⟨b, off + j, none⟩ = some (.int .i64 (sq l j : Int)) := by
  rw [sq_get l j hj]; exact h j _ (nats_get l j hj)
theorem u8s_sq {w : World} {b off : Nat} {l : List Nat} (h : ∀ j u, (u8s l)[j]? = some u → w.cell? ⟨b, off + j, none⟩ = some u) (j : Nat) (hj : j < l.length) : w.cell? ⟨b, off + j, none⟩ = some (.int .u8 (sq l j : Int)) := by
  rw [sq_get l j hj]; exact h j _ (u8s_get l j hj)
/-- A slice of ints that reads as l. -/
def IReads (w : World) (v : Value) (l : List Nat) : Prop := ∃ a cap, v = .slice a l.length cap ∧ l.length ≤ cap ∧ Lies w w.heap.size a (nats l)
theorem IReads.step {w w' : World} {v : Value} {l : List Nat} (h : IReads w v l) (hb : Below w.heap.size w w') : IReads w' v l := by
  obtain ⟨a, cap, h1, h2, h3⟩ := h
  exact ⟨a, cap, h1, h2, h3.step hb⟩

theorem Lies.take {w : World} {B : Nat} {a : Option Addr} {xs : List Value} (h : Lies w B a xs) (k : Nat) : Lies w B a (xs.take k) := by
  intro h0
  rw [List.length_take] at h0
  obtain ⟨b', off', e, h1, h2⟩ := h (by omega)
  refine ⟨b', off', e, h1, fun j u hj => h2 j u ?_⟩
  rw [List.getElem?_take] at hj
  split at hj
  · exact hj
  · cases hj

def lenV : Value → Nat
  | .slice _ n _ => n
  | _ => 0
set_option maxHeartbeats 1000000 in
theorem cut_any (a : Option Addr) (cap : Nat) (l : List Nat) (w : World) (hb : By l) (hl : l.length ≤ 1000000) (hcap : l.length ≤ cap) (hr : Lies w w.heap.size a (nats l)) :
    Calls Try.prog 16 #[.slice a l.length cap] w fun e w' => (∃ v, e = .returned v ∧ IReads w v (cut l)) ∧ w = w' := by
  have HR := Lib.hid hr
  have HC := Lib.hid hcap
  have HB := Lib.hid hb
  clear hr hcap hb
  go_enter Try.func16, Try.ntmps16
  go_wp2
  go_loop [0] (fun v => ∃ k : Nat, k ≤ l.length ∧ v = .slice a k cap ∧ ∀ j, k ≤ j → j < l.length → sq l j = 0) (fun v => lenV v)
  case atStart => exact ⟨l.length, Nat.le_refl _, rfl, fun j h1 h2 => absurd h1 (by omega)⟩
  case round =>
    obtain ⟨k, hk, rfl, hz⟩ := hrel
    have HZ := Lib.hid hz
    clear hz
    match k, hk with
    | 0, hk =>
      have HV : Hid (IReads w (.slice a 0 cap) (cut l)) := Lib.hid (by
        have h1 := cut_len l 0 (by omega) (fun j h1 h2 => HZ.out j h1 h2) (Or.inl rfl)
        have h2 : cut l = [] := List.eq_nil_of_length_eq_zero h1
        rw [h2]
        exact ⟨a, cap, rfl, Nat.zero_le _, Lies.nil _ _ _⟩)
      go_wp2
      go_ret
      exact ⟨⟨_, rfl, HV.out⟩, rfl⟩
    | m + 1, hk =>
      obtain ⟨b2, off, rfl, hbb, hc⟩ := HR.out (by rw [nats_length]; omega)
      have hcell : w.cell? ⟨b2, off + m, none⟩ = some (.int .i64 (sq l m : Int)) := nats_sq (B := 0) hc m (by omega)
      have hx8 := HB.out.sq m
      have hmc := HC.out
      obtain ⟨M, hM⟩ : ∃ M, m + 1 = M := ⟨_, rfl⟩
      have hMi : (M : Int) - 1 = (m : Int) := by omega
      have hM0 : 0 < (M : Int) := by omega
      have hM1 : (m : Int) < M := by omega
      have hM2 : (m : Int) ≤ 1000000 := by omega
      have hMb : (M : Int) ≤ 1000000 := by omega
      have hcp0 : ¬ cap = 0 := by omega
      have hcp1 : ¬ 0 = cap := by omega
      have hmcap : (m : Int) ≤ cap := by omega
      have hkl : M ≤ l.length := by omega
      rw [hM]
      by_cases h0 : sq l m = 0
      · rw [h0] at hcell
        have HZ2 : Hid (∀ j, m ≤ j → j < l.length → sq l j = 0) := Lib.hid fun j h1 h2 => by
          by_cases e : j = m
          · rw [e]; exact h0
          · exact HZ.out j (by omega) h2
        have HML : Hid (m < M) := Lib.hid (by omega)
        clear hc hbb h0 hx8 hmc hM hk HZ
        go_wp2
        go_round
        case rel => exact ⟨m, by omega, rfl, HZ2.out⟩
        case measure => simp [lenV]; exact HML.out
      · have HV : Hid (IReads w (.slice (some ⟨b2, off, none⟩) M cap) (cut l)) := Lib.hid (by
          have h1 := cut_len l (m + 1) (by omega) (fun j h1 h2 => HZ.out j (by omega) h2) (Or.inr (by simpa using h0))
          have h2 := cut_take l
          rw [h1, hM] at h2
          rw [hM] at h1
          refine ⟨_, _, by rw [h1], by rw [h1]; omega, ?_⟩
          rw [h2, nats, List.map_take]
          exact Lies.take (fun _ => ⟨b2, off, rfl, hbb, hc⟩) M)
        obtain ⟨x, hx⟩ : ∃ x, sq l m = x := ⟨_, rfl⟩
        rw [hx] at hcell h0
        have hxi : ¬ (x : Int) = 0 := by omega
        clear hc hbb h0 hx8 hmc hM hk HZ hx
        go_wp2
        go_ret
        exact ⟨⟨_, rfl, HV.out⟩, rfl⟩

end Go.Proofs.Ytpkjannlndnfdaa
