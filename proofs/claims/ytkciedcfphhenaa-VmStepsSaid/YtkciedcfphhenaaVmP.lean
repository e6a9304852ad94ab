
/-
  One instruction of one thread, as plain data. Nothing of the landed code is spoken of here.
-/
import Derived.Test.YtkciedcfphhenaaGood4R
set_option linter.unusedVariables false
set_option linter.unusedSimpArgs false
namespace Go.Proofs.Ytkciedcfphhenaa.Plain

/-- A request. -/
structure QV where
  kind : Int
  a : Int
  v : Int
deriving DecidableEq
def q0 : QV := ⟨0, 0, 0⟩
def lastFr (t : TV) : FrV := t.frames.getLastD ⟨0, 0, []⟩
def setLast (t : TV) (f : FrV) : TV := { t with frames := t.frames.set (t.frames.length - 1) f }
def jumpT (t : TV) (pc : Int) : TV := setLast t { lastFr t with pc := pc }
def setT (t : TV) (i : Int) (v : Int) : TV := setLast t { lastFr t with locals := (lastFr t).locals.set i.toNat (keep v) }
def getT (t : TV) (i : Int) : Int := (lastFr t).locals.getD i.toNat 0
def popT (t : TV) : TV := { t with stack := t.stack.take (t.stack.length - 1) }
def topT (t : TV) : Int := t.stack.getD (t.stack.length - 1) 0
def leaveT (t : TV) : TV := { t with frames := t.frames.take (t.frames.length - 1) }
def fetchT (p : PV) (t : TV) : Option IV := (funcAt p (lastFr t).func).code[(lastFr t).pc.toNat]?
def endV (c : Int) : TV × QV := (⟨9, 0, [], [], c⟩, ⟨1, 0, c⟩)
def pushV (t : TV) (v : Int) : TV × QV := if t.stack.length < 16 then (pushT t v, q0) else endV 2
def popV (t : TV) (k : TV → Int → TV × QV) : TV × QV := if t.stack = [] then endV 1 else k (popT t) (topT t)
/-- The request of an instruction that asks for something. -/
def kindV (op : Int) : Int :=
  if op = 12 then 2 else if op = 11 then 3 else if op = 13 then 4 else if op = 14 then 5 else if op = 15 then 6 else if op = 16 then 7 else if op = 17 then 8 else if op = 18 then 9 else if op = 19 then 10
  else if op = 20 then 11 else if op = 21 then 12 else if op = 22 then 13 else if op = 23 then 14 else if op = 24 then 15 else if op = 25 then 16 else 0
/-- What an instruction does, behind the step of the place. -/
def deedV (p : PV) (u : TV) (i : IV) : TV × QV :=
  if i.op = 0 then pushV u i.a
  else if i.op = 1 then popV u fun t _ => (t, q0)
  else if i.op = 2 then popV u fun t v => pushV (pushT t v) v
  else if i.op = 3 then popV u fun t y => popV t fun s x => pushV s (x + y)
  else if i.op = 4 then popV u fun t y => popV t fun s x => pushV s (x - y)
  else if i.op = 5 then pushV u (getT u i.a)
  else if i.op = 6 then popV u fun t v => (setT t i.a v, q0)
  else if i.op = 7 then (jumpT u i.a, q0)
  else if i.op = 8 then popV u fun t v => (if v = 0 then jumpT t i.a else t, q0)
  else if i.op = 9 then (if u.frames.length < 8 then (enterT p u i.a, q0) else endV 3)
  else if i.op = 10 then (if 1 < u.frames.length then (leaveT u, q0) else endV 0)
  else if i.op = 26 then endV 0
  else if i.op = 13 ∨ i.op = 14 ∨ i.op = 22 ∨ i.op = 25 then popV u fun t v => (t, ⟨kindV i.op, i.a, v⟩)
  else (u, ⟨kindV i.op, i.a, 0⟩)
def stepV (p : PV) (t : TV) : TV × QV :=
  match fetchT p t with
  | none => endV 6
  | some i => deedV p (jumpT t ((lastFr t).pc + 1)) i
end Go.Proofs.Ytkciedcfphhenaa.Plain
