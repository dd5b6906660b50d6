/- What the slots are, as a value, and what a record does (mathematics: no program). -/
import Derived.Test.YtbpdnaiackfdmaaRec0
namespace MetMath
set_option linter.unusedVariables false

structure Sl where
  s : Int
  v : Int
  b : Int
deriving DecidableEq
structure Mt where
  a : Sl
  b : Sl
  c : Sl
  act : Int
  flo : Int
  cur : Int
  int : Int
deriving DecidableEq
def Mt.get (m : Mt) (i : Int) : Sl := if i = 0 then m.a else if i = 1 then m.b else m.c
def Mt.put (m : Mt) (i : Int) (x : Sl) : Mt := if i = 0 then { m with a := x } else if i = 1 then { m with b := x } else { m with c := x }
def isS (i : Int) : Bool := decide (0 ≤ i) && decide (i < 3)
def ofS (k : Int) : Bool := decide (k < 8) || decide (11 < k)
theorem isS_is {i : Int} : isS i = true ↔ i = 0 ∨ i = 1 ∨ i = 2 := by
  simp only [isS, Bool.and_eq_true, decide_eq_true_eq]
  omega
def Mt.spoil (m : Mt) (i : Int) : Mt := if isS i = true then (if m.act = i then { m.put i ⟨5, 0, 0⟩ with act := 0 } else m.put i ⟨5, 0, 0⟩) else m
def Mt.trial (m : Mt) : Int × Bool := if m.a.s = 3 then (0, true) else if m.b.s = 3 then (1, true) else if m.c.s = 3 then (2, true) else (0, false)
def Mt.is (m : Mt) (i st : Int) : Bool := (m.get i).s == st
def Mt.idle (m : Mt) (i : Int) : Bool := i != 0 && i != m.act && !m.is i 3
def Mt.boots (m : Mt) (i : Int) : Bool := i == 0 || m.is i 4
def stOk (k : Int) : Bool := decide (0 ≤ k) && decide (k < 6)
/-- What a record of this kind would do, and whether it may. -/
def Mt.rule (m : Mt) (k i v : Int) : Option (Bool × Mt) :=
  if k = 1 then some (m.idle i, m.put i ⟨1, 0, 0⟩)
  else if k = 2 then some (m.is i 1, m.put i ⟨2, v, 0⟩)
  else if k = 3 then some (m.is i 2 && decide (v ≤ 512) && !m.trial.2, { m.put i ⟨3, (m.get i).v, v⟩ with act := i })
  else if k = 4 then some (m.is i 3, { m.put i ⟨4, (m.get i).v, 0⟩ with flo := max m.flo (m.get i).v })
  else if k = 5 then some (i != 0 && !m.is i 0, m.spoil i)
  else if k = 6 then some (m.idle i, m.put i ⟨0, 0, 0⟩)
  else if k = 7 then some (m.boots i, { (if m.trial.2 = true then m.spoil m.trial.1 else m) with act := i })
  else if k = 8 then some (decide (m.flo < v), { m with flo := v })
  else if k = 9 then some (true, { m with cur := v })
  else if k = 10 then some (v != 0 && m.int == 0, { m with int := v })
  else if k = 11 then some (m.int != 0, { m with int := 0 })
  else if k = 12 then some ((m.is i 5 || m.is i 1) && i != 0, m.put i ⟨4, v, 0⟩)
  else if k = 13 then some (m.act != 0 && m.act != i && m.boots i, { m.spoil m.act with act := i })
  else if k = 110 then some (true, { m with act := i })
  else if k = 111 then some (decide (v ≤ 512), m.put i ⟨(m.get i).s, (m.get i).v, v⟩)
  else if stOk (k - 100) = true then some (true, m.put i ⟨k - 100, v, (m.get i).b⟩)
  else none
/-- Do: what is known then, and the error's number. -/
def Mt.doo (m : Mt) (ok : Bool) (k i v : Int) : Mt × Int :=
  if (!ok || (ofS k && !isS i)) = true then (m, 1)
  else match m.rule k i v with
    | none => (m, 1)
    | some (false, _) => (m, 10)
    | some (true, x) => (x, 0)
def Mt.new : Mt := ⟨⟨4, 0, 0⟩, ⟨0, 0, 0⟩, ⟨0, 0, 0⟩, 0, 0, 0, 0⟩
def val (n : Int) : Bool := decide (0 ≤ n) && decide (n ≤ 281474976710655)
def Sl.right (x : Sl) : Bool := stOk x.s && val x.v && (decide (0 ≤ x.b) && decide (x.b ≤ 512)) && (x.b == 0 || x.s == 3) && (x.v == 0 || x.s == 2 || x.s == 3 || x.s == 4)
def Mt.right (m : Mt) : Bool :=
  isS m.act && val m.flo && val m.cur && val m.int && (m.a.right && (m.a.s != 3 || m.act == 0)) && (m.b.right && (m.b.s != 3 || m.act == 1)) && (m.c.right && (m.c.s != 3 || m.act == 2))
    && m.a.s == 4 && ((m.get m.act).s == 4 || (m.get m.act).s == 3)
end MetMath
