/- Contracts of rs: what a code is, none, Size, Over. -/
import Derived.Test.YtpnjmbhplckgmaaPolyX
import Derived.Test.YtpnjmbhplckgmaaPolyT
import Derived.Test.YtpnjmbhplckgmaaRsMath
namespace Go.Proofs.Ytpnjmbhplckgmaa
open Go.RowKit GfMath PolyMath RsMath
set_option linter.unusedVariables false

def codeL (b n k : Nat) (v : Value) : List Value := [.pointer (some ⟨b, 0, none⟩), .int .i64 (n : Int), .int .i64 (k : Int), v]
/-- A code that is being made: it has its field and its sizes. -/
def Cor (w : World) (c b k p : Nat) (v : Value) : Prop := Row w c 44 (codeL b (k + p) k v) ∧ Fld w b
theorem Cor.step {w w' : World} {c b k p : Nat} {v : Value} (h : Cor w c b k p v) (hb : Below w.heap.size w w') : Cor w' c b k p v := ⟨h.1.step hb, h.2.step hb⟩
theorem Cor.c0 {w : World} {c b k p : Nat} {v : Value} (h : Cor w c b k p v) : w.cell? ⟨c, 0, none⟩ = some (.pointer (some ⟨b, 0, none⟩)) := by rw [h.1.cell]; rfl
theorem Cor.c1 {w : World} {c b k p : Nat} {v : Value} (h : Cor w c b k p v) : w.cell? ⟨c, 1, none⟩ = some (.int .i64 ((k + p : Nat) : Int)) := by rw [h.1.cell]; rfl
theorem Cor.c2 {w : World} {c b k p : Nat} {v : Value} (h : Cor w c b k p v) : w.cell? ⟨c, 2, none⟩ = some (.int .i64 (k : Int)) := by rw [h.1.cell]; rfl
theorem Cor.c3 {w : World} {c b k p : Nat} {v : Value} (h : Cor w c b k p v) : w.cell? ⟨c, 3, none⟩ = some v := by rw [h.1.cell]; rfl
theorem Cor.lt {w : World} {c b k p : Nat} {v : Value} (h : Cor w c b k p v) : c < w.heap.size := h.1.lt

/-- A code that New made. -/
structure Cod (w : World) (c b k p : Nat) : Prop where
  k1 : 1 ≤ k
  p1 : 1 ≤ p
  n255 : k + p ≤ 255
  p64 : p ≤ 64
  cor : ∃ a cap, Cor w c b k p (.slice a (p + 1) cap) ∧ p + 1 ≤ cap ∧ Lies w w.heap.size a (u8s (rt (exs p)))
theorem Cod.step {w w' : World} {c b k p : Nat} (h : Cod w c b k p) (hb : Below w.heap.size w w') : Cod w' c b k p := by
  obtain ⟨a, cap, h1, h2, h3⟩ := h.cor
  exact ⟨h.k1, h.p1, h.n255, h.p64, a, cap, h1.step hb, h2, h3.step hb⟩
theorem Cod.lt {w : World} {c b k p : Nat} (h : Cod w c b k p) : c < w.heap.size := by
  obtain ⟨a, cap, h1, _⟩ := h.cor
  exact h1.lt

theorem none_nil (w : World) : Calls Try.prog 25 #[.pointer none] w fun e w' => e = .returned (.bool true) ∧ w = w' := by
  go_enter Try.func25, Try.ntmps25
  go_wp2
  go_ret
  exact ⟨rfl, rfl⟩
theorem none_any (c b k p : Nat) (v : Value) (w : World) (h : Cor w c b k p v) : Calls Try.prog 25 #[.pointer (some ⟨c, 0, none⟩)] w fun e w' => e = .returned (.bool false) ∧ w = w' := by
  have h0 := h.c0
  clear h
  go_enter Try.func25, Try.ntmps25
  go_wp2
  go_ret
  exact ⟨rfl, rfl⟩
theorem size_nil (w : World) : Calls Try.prog 12 #[.pointer none] w fun e w' => e = .returned (.tuple #[.int .i64 0, .int .i64 0]) ∧ w = w' := by
  have HN := Lib.hid (none_nil w)
  go_enter Try.func12, Try.ntmps12
  go_wp2_with (go_at_call 25; (with_reducible refine HN.out.mono ?_); rintro e w1 ⟨rfl, rfl⟩)
  go_ret2
  exact ⟨rfl, rfl⟩
theorem size_any (c b k p : Nat) (v : Value) (w : World) (h : Cor w c b k p v) : Calls Try.prog 12 #[.pointer (some ⟨c, 0, none⟩)] w fun e w' => e = .returned (.tuple #[.int .i64 ((k + p : Nat) : Int), .int .i64 (k : Int)]) ∧ Below w.heap.size w w' := by
  have HN := Lib.hid (none_any c b k p v w h)
  have h1 := h.c1
  have h2 := h.c2
  obtain ⟨n, hn⟩ : ∃ n, k + p = n := ⟨_, rfl⟩
  rw [hn] at h1 ⊢
  clear h hn
  go_enter Try.func12, Try.ntmps12
  go_wp2_with (go_at_call 25; (with_reducible refine HN.out.mono ?_); rintro e w1 ⟨rfl, rfl⟩)
  go_quiet (fail)
  go_wp2
  go_ret2
  exact ⟨rfl, (Below.refl _ _).drewN _⟩
theorem over_nil (w : World) : Calls Try.prog 20 #[.pointer none] w fun e w' => e = .returned (.pointer none) ∧ w = w' := by
  have HN := Lib.hid (none_nil w)
  go_enter Try.func20, Try.ntmps20
  go_wp2_with (go_at_call 25; (with_reducible refine HN.out.mono ?_); rintro e w1 ⟨rfl, rfl⟩)
  go_ret
  exact ⟨rfl, rfl⟩

theorem at_id (x : Nat) (w : World) : Calls Try.prog 23 #[.int .u8 (x : Int)] w fun e w' => e = .returned (.int .u8 (x : Int)) ∧ w = w' := by
  go_enter Try.func23, Try.ntmps23
  go_wp2
  go_ret
  exact ⟨rfl, rfl⟩

end Go.Proofs.Ytpnjmbhplckgmaa
