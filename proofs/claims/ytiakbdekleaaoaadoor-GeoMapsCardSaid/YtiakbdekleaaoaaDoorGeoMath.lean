/- Geometries as numbers: no program in it. -/
import Derived.PlainAid
namespace Go.Proofs.YtiakbdekleaaoaaDoor.GeoMath
set_option linter.unusedVariables false

structure Gm where
  d : Int
  p : Int
  s : Int
structure Sp where
  n : Int
  lo : Int
  hi : Int
def Sp.ok (s : Sp) : Bool := !(decide (s.n < s.lo) || decide (s.hi < s.n))
def okAll (L : List Sp) : Bool := L.all Sp.ok
def right (g : Gm) : Bool := okAll [⟨g.d, 1, 8⟩, ⟨g.p, 2, 6⟩, ⟨g.s, 1, 8⟩]
structure Rt (g : Gm) : Prop where
  d1 : 1 ≤ g.d
  d8 : g.d ≤ 8
  p2 : 2 ≤ g.p
  p6 : g.p ≤ 6
  s1 : 1 ≤ g.s
  s8 : g.s ≤ 8
theorem ok_iff (s : Sp) : s.ok = true ↔ s.lo ≤ s.n ∧ s.n ≤ s.hi := by simp [Sp.ok]
theorem right_iff (g : Gm) : right g = true ↔ Rt g := by
  rw [right, okAll]
  simp only [List.all_cons, List.all_nil, Bool.and_true, Bool.and_eq_true, ok_iff]
  exact ⟨fun ⟨⟨a, b⟩, ⟨c, d⟩, e, f⟩ => ⟨a, b, c, d, e, f⟩, fun ⟨a, b, c, d, e, f⟩ => ⟨⟨a, b⟩, ⟨c, d⟩, e, f⟩⟩
def wide (g : Gm) : Int := if right g = true then g.d + g.p else 0
def slot (g : Gm) : Int := wide g * g.s
def log (g : Gm) : Int := 3 * slot g
def tal (g : Gm) : Int := log g + 16
def all (g : Gm) : Int := if right g = true then tal g + 2 else 0
def room (g : Gm) : Int := if right g = true then max 0 (60 * g.d * g.s - 48) else 0
def askF (g : Gm) (L : List Sp) : Int := if right g = true then (if okAll L = true then 0 else 2) else 1
theorem wide_yes {g : Gm} (h : right g = true) : wide g = g.d + g.p := if_pos h
theorem wide_no {g : Gm} (h : right g = false) : wide g = 0 := if_neg (by rw [h]; decide)
theorem slot_no {g : Gm} (h : right g = false) : slot g = 0 := by rw [slot, wide_no h, Int.zero_mul]
theorem wide_le (g : Gm) : 0 ≤ wide g ∧ wide g ≤ 14 := by
  cases h : right g with
  | false => rw [wide_no h]; decide
  | true =>
    have hr := (right_iff g).1 h
    rw [wide_yes h]
    have h1 := hr.d1; have h2 := hr.d8; have h3 := hr.p2; have h4 := hr.p6
    omega
theorem slot_le (g : Gm) : 0 ≤ slot g ∧ slot g ≤ 112 := by
  cases h : right g with
  | false => rw [slot_no h]; decide
  | true =>
    have hr := (right_iff g).1 h
    have hw := wide_le g
    have h1 := hr.s1
    have h8 := hr.s8
    rw [slot]
    refine ⟨Int.mul_nonneg hw.1 (by omega), ?_⟩
    have h2 : wide g * g.s ≤ 14 * g.s := Int.mul_le_mul_of_nonneg_right hw.2 (by omega)
    omega
/-- What is wrong with a place: 0 nothing, 1 the geometry, 2 the place. -/
def sectQ (g : Gm) (a b c : Int) : Int := askF g [⟨a, 0, 2⟩, ⟨b, 0, g.s - 1⟩, ⟨c, 0, wide g - 1⟩]
def sect (g : Gm) (a b c : Int) : Int := if sectQ g a b c = 0 then a * slot g + c * g.s + b else 0
def halfQ (g : Gm) (a b : Int) : Int := askF g [⟨a, 0, 1⟩, ⟨b, 0, 1⟩]
def half (g : Gm) (a b : Int) : Int := if halfQ g a b = 0 then log g + (a * 2 + b) * 4 else 0
def talQ (g : Gm) (a : Int) : Int := askF g [⟨a, 0, 1⟩]
def talA (g : Gm) (a : Int) : Int := if talQ g a = 0 then tal g + a else 0
def ofQ (g : Gm) (n : Int) : Int := askF g [⟨n, 0, log g - 1⟩]
theorem ask_cases (g : Gm) (L : List Sp) : (right g = false ∧ askF g L = 1) ∨ (right g = true ∧ okAll L = false ∧ askF g L = 2) ∨ (right g = true ∧ okAll L = true ∧ askF g L = 0) := by
  rw [askF]
  cases right g <;> cases okAll L <;> simp
theorem ask_wrap (g : Gm) (L M : List Sp) (h : right g = true → L = M) : askF g L = askF g M := by
  rw [askF, askF]
  cases hr : right g with
  | false => simp
  | true => rw [h hr]
theorem okAll3 (a b c : Sp) : okAll [a, b, c] = true ↔ (a.lo ≤ a.n ∧ a.n ≤ a.hi) ∧ (b.lo ≤ b.n ∧ b.n ≤ b.hi) ∧ (c.lo ≤ c.n ∧ c.n ≤ c.hi) := by
  simp [okAll, ok_iff]
theorem okAll2 (a b : Sp) : okAll [a, b] = true ↔ (a.lo ≤ a.n ∧ a.n ≤ a.hi) ∧ (b.lo ≤ b.n ∧ b.n ≤ b.hi) := by simp [okAll, ok_iff]
theorem okAll1 (a : Sp) : okAll [a] = true ↔ (a.lo ≤ a.n ∧ a.n ≤ a.hi) := by simp [okAll, ok_iff]
structure SIn (g : Gm) (a b c : Int) : Prop where
  r : Rt g
  a0 : 0 ≤ a
  a2 : a ≤ 2
  b0 : 0 ≤ b
  bs : b < g.s
  c0 : 0 ≤ c
  cw : c < g.d + g.p
theorem sectQ_zero (g : Gm) (a b c : Int) : sectQ g a b c = 0 ↔ SIn g a b c := by
  rw [sectQ]
  rcases ask_cases g [⟨a, 0, 2⟩, ⟨b, 0, g.s - 1⟩, ⟨c, 0, wide g - 1⟩] with ⟨h1, h2⟩ | ⟨h1, h2, h3⟩ | ⟨h1, h2, h3⟩
  · rw [h2]
    refine ⟨fun h => absurd h (by decide), fun h => ?_⟩
    rw [(right_iff g).2 h.r] at h1
    cases h1
  · rw [h3]
    refine ⟨fun h => absurd h (by decide), fun h => ?_⟩
    have : okAll [⟨a, 0, 2⟩, ⟨b, 0, g.s - 1⟩, ⟨c, 0, wide g - 1⟩] = true := (okAll3 _ _ _).2 ⟨⟨h.a0, h.a2⟩, ⟨h.b0, by have := h.bs; show b ≤ g.s - 1; omega⟩, h.c0, by have := h.cw; show c ≤ wide g - 1; rw [wide_yes h1]; omega⟩
    rw [this] at h2
    cases h2
  · rw [h3]
    refine ⟨fun _ => ?_, fun _ => rfl⟩
    obtain ⟨⟨x1, x2⟩, ⟨x3, x4⟩, x5, x6⟩ := (okAll3 _ _ _).1 h2
    dsimp only at x1 x2 x3 x4 x5 x6
    rw [wide_yes h1] at x6
    exact ⟨(right_iff g).1 h1, x1, x2, x3, by omega, x5, by omega⟩
theorem ask3 (g : Gm) (L : List Sp) : askF g L = 0 ∨ askF g L = 1 ∨ askF g L = 2 := by
  rcases ask_cases g L with ⟨_, h⟩ | ⟨_, _, h⟩ | ⟨_, _, h⟩
  · exact Or.inr (Or.inl h)
  · exact Or.inr (Or.inr h)
  · exact Or.inl h
theorem ask_zero {g : Gm} {L : List Sp} (h : askF g L = 0) : Rt g ∧ okAll L = true := by
  rcases ask_cases g L with ⟨_, h2⟩ | ⟨_, _, h2⟩ | ⟨h1, h2, _⟩
  · rw [h2] at h; exact absurd h (by decide)
  · rw [h2] at h; exact absurd h (by decide)
  · exact ⟨(right_iff g).1 h1, h2⟩
theorem slot_yes {g : Gm} (h : Rt g) : slot g = (g.d + g.p) * g.s := by rw [slot, wide_yes ((right_iff g).2 h)]
theorem slot_pos {g : Gm} (h : Rt g) : 3 ≤ slot g := by
  rw [slot_yes h]
  have h1 := h.d1
  have h2 := h.p2
  have h3 := h.s1
  have : 3 * g.s ≤ (g.d + g.p) * g.s := Int.mul_le_mul_of_nonneg_right (by omega) (by omega)
  omega
def ofA (g : Gm) (n : Int) : Int := if ofQ g n = 0 then n / slot g else 0
def ofB (g : Gm) (n : Int) : Int := if ofQ g n = 0 then n % slot g % g.s else 0
def ofC (g : Gm) (n : Int) : Int := if ofQ g n = 0 then n % slot g / g.s else 0
def ofK (g : Gm) (n : Int) : Bool := decide (ofQ g n = 0)
end Go.Proofs.YtiakbdekleaaoaaDoor.GeoMath
