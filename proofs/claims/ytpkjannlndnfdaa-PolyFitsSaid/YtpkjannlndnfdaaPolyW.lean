/- The walk of PolySums. -/
import Derived.Test.YtpkjannlndnfdaaPolyU
import Derived.Test.YtpkjannlndnfdaaPolyMath4
namespace Go.Proofs.Ytpkjannlndnfdaa
open Go.RowKit GfMath PolyMath
set_option linter.unusedVariables false

def u8l (l : List Nat) : List UInt8 := l.map fun n => UInt8.ofNat n
theorem u8s_bytes {l : List Nat} (h : By l) : u8s l = bytes (u8l l) := by
  simp only [u8s, bytes, u8l, List.map_map]
  refine List.map_congr_left fun x hx => ?_
  have := h x hx
  simp only [Function.comp, UInt8.toNat_ofNat']
  congr 2
  omega
theorem u8l_length (l : List Nat) : (u8l l).length = l.length := by simp [u8l]
theorem conv_u8s {w : World} {B : Nat} {a : Option Addr} {l : List Nat} (hl : By l) (c : Nat) (h : Lies w B a (u8s l)) :
    (convert 22 9 (.slice a l.length c)).run Try.prog w = .ok (.string (str (u8l l))) w := by
  rw [u8s_bytes hl] at h
  cases a with
  | none =>
    by_cases h0 : l.length = 0
    · have : l = [] := List.eq_nil_of_length_eq_zero h0
      subst this
      exact run_convert_bytes_nil w _ _ Try.underlying22 Try.underlying5 _ _ _ Try.underlying9
    · obtain ⟨b, off, e, _⟩ := h (by rw [bytes_length, u8l_length]; omega)
      cases e
  | some ad =>
    have h2 := run_convert_bytes_back (P := Try.prog) w 22 9 5 ad c (u8l l) Try.underlying22 Try.underlying5 Try.underlying9 (fun j hj => by
      obtain ⟨b, off, e, _, h3⟩ := h (by rw [bytes_length]; omega)
      cases e
      rw [Addr.add_lit]
      exact h3 j _ (bytes_get _ j hj))
    rw [u8l_length] at h2
    exact h2
/-- The law's text of all polynomials. -/
def txt (ls : List (List Nat)) : ByteArray := str (ls.flatMap fun l => u8l l ++ [124])
theorem txt_snoc (ls : List (List Nat)) (l : List Nat) : txt (ls ++ [l]) = txt ls ++ (str (u8l l) ++ { data := #[124] }) := by
  have e : ({ data := #[124] } : ByteArray) = str [124] := rfl
  rw [e, str_append, txt, txt, str_append, List.flatMap_append, List.flatMap_cons, List.flatMap_nil, List.append_nil]
theorem txt_le (ls : List (List Nat)) (N : Nat) (h : ∀ l ∈ ls, l.length ≤ N) : (txt ls).size ≤ ls.length * (N + 1) := by
  rw [txt, str_size]
  induction ls with
  | nil => simp
  | cons l ls ih =>
    have h1 := ih fun y hy => h y (by simp [hy])
    have h2 := h l (by simp)
    rw [List.flatMap_cons, List.length_append, List.length_append, u8l_length, List.length_singleton, List.length_cons, Nat.add_mul]
    omega

end Go.Proofs.Ytpkjannlndnfdaa
