
/-
  Threads as plain data: which may be, what is done to them, what is made of any. Nothing of the landed code is spoken of here.
-/
import Derived.Test.YtkciedcfphhenaaPrP
set_option linter.unusedVariables false
set_option linter.unusedSimpArgs false
namespace Go.Proofs.Ytkciedcfphhenaa.Plain

/-- A frame. -/
structure FrV where
  func : Int
  pc : Int
  locals : List Int
deriving DecidableEq
/-- A thread. -/
structure TV where
  state : Int
  on : Int
  frames : List FrV
  stack : List Int
  code : Int
deriving DecidableEq

def keep (n : Int) : Int := if n < -1073741824 then -1073741824 else if 1073741824 < n then 1073741824 else n
theorem keep_bd (n : Int) : -1073741824 ≤ keep n ∧ keep n ≤ 1073741824 := by unfold keep; split <;> (try split) <;> omega
theorem keep_keep (n : Int) : keep (keep n) = keep n := by have := keep_bd n; generalize keep n = m at *; unfold keep; split <;> (try split) <;> omega
theorem keep_id {n : Int} (h : -1073741824 ≤ n ∧ n ≤ 1073741824) : keep n = n := by unfold keep; split <;> (try split) <;> omega
def isKept (n : Int) : Bool := decide (-1073741824 ≤ n) && decide (n ≤ 1073741824)
theorem isKept_iff (n : Int) : isKept n = true ↔ keep n = n := by
  simp only [isKept, Bool.and_eq_true, decide_eq_true_eq]
  constructor
  · exact keep_id
  · intro h; have := keep_bd n; omega
def keptB (l : List Int) : Bool := l.all isKept

/-- The function of a number. -/
def funcAt (p : PV) (f : Int) : FV := p.funcs.getD f.toNat ⟨0, []⟩
def newFr (p : PV) (f : Int) : FrV := ⟨f, 0, List.replicate (funcAt p f).locals.toNat 0⟩
def newT (p : PV) (f : Int) : TV := ⟨0, 0, [newFr p f], [], 0⟩
def frB (p : PV) (f : FrV) : Bool :=
  decide (0 ≤ f.func) && decide (f.func < p.funcs.length) && decide (0 ≤ f.pc) && decide (f.pc ≤ (funcAt p f.func).code.length) && decide ((f.locals.length : Int) = (funcAt p f.func).locals) && keptB f.locals
def mayT (p : PV) (t : TV) : Bool :=
  decide (0 ≤ t.state) && decide (t.state ≤ 9) && decide (0 ≤ t.code) && decide (t.code ≤ 6) && decide (t.frames.length ≤ 8) && decide (t.stack.length ≤ 16) && keptB t.stack && isKept t.on && t.frames.all (frB p) &&
    (if t.state = 9 then t.frames.isEmpty && t.stack.isEmpty else !t.frames.isEmpty && decide (t.code = 0))

def pushT (t : TV) (v : Int) : TV := { t with stack := t.stack ++ [keep v] }
def enterT (p : PV) (t : TV) (f : Int) : TV := { t with frames := t.frames ++ [newFr p f] }

/-- All numbers of a thread fit. -/
structure FitT (t : TV) : Prop where
  state : -9223372036854775808 ≤ t.state ∧ t.state ≤ 9223372036854775807
  on : -9223372036854775808 ≤ t.on ∧ t.on ≤ 9223372036854775807
  code : -9223372036854775808 ≤ t.code ∧ t.code ≤ 9223372036854775807
  stack : FitL t.stack
  frames : ∀ f ∈ t.frames, (-9223372036854775808 ≤ f.func ∧ f.func ≤ 9223372036854775807) ∧ (-9223372036854775808 ≤ f.pc ∧ f.pc ≤ 9223372036854775807) ∧ FitL f.locals
/-- Its rows are no longer than memory is. -/
structure LensT (t : TV) : Prop where
  frames : t.frames.length ≤ 3518437208883
  stack : t.stack.length ≤ 17592186044416
  locals : ∀ f ∈ t.frames, f.locals.length ≤ 17592186044416
/-- Its rows are no longer than a number tells. -/
structure LenT (t : TV) : Prop where
  frames : t.frames.length ≤ 9223372036854775807
  stack : t.stack.length ≤ 9223372036854775807
  locals : ∀ f ∈ t.frames, f.locals.length ≤ 9223372036854775807
end Go.Proofs.Ytkciedcfphhenaa.Plain
