
/-
  Facts of the program alone: what it was made for, and that it may be entered.
-/
import Derived.Test.YtbgdgfnbdipjkaaChecked
import Derived.WalkKit
import Derived.JoinedOf
set_option maxRecDepth 100000
set_option linter.unusedVariables false
set_option linter.unusedSimpArgs false
namespace Go.Proofs.Ytbgdgfnbdipjkaa

/-- The order of the program's beginning, letter by letter. -/
def orderL : List Char := [Char.ofNat 104, Char.ofNat 97, Char.ofNat 114, Char.ofNat 110, Char.ofNat 101, Char.ofNat 115, Char.ofNat 115, Char.ofNat 32, Char.ofNat 49, Char.ofNat 101, Char.ofNat 55, Char.ofNat 49, Char.ofNat 52, Char.ofNat 50, Char.ofNat 102, Char.ofNat 52, Char.ofNat 53, Char.ofNat 50, Char.ofNat 98, Char.ofNat 50, Char.ofNat 99, Char.ofNat 53, Char.ofNat 51, Char.ofNat 51, Char.ofNat 97, Char.ofNat 100, Char.ofNat 99, Char.ofNat 50, Char.ofNat 55, Char.ofNat 56, Char.ofNat 98, Char.ofNat 55, Char.ofNat 99, Char.ofNat 102, Char.ofNat 102, Char.ofNat 50, Char.ofNat 52, Char.ofNat 53, Char.ofNat 99, Char.ofNat 101,
  Char.ofNat 99, Char.ofNat 101, Char.ofNat 98, Char.ofNat 97, Char.ofNat 50, Char.ofNat 100, Char.ofNat 50, Char.ofNat 101, Char.ofNat 53, Char.ofNat 56, Char.ofNat 48, Char.ofNat 101, Char.ofNat 50, Char.ofNat 49, Char.ofNat 100, Char.ofNat 55, Char.ofNat 48, Char.ofNat 101, Char.ofNat 49, Char.ofNat 52, Char.ofNat 56, Char.ofNat 99, Char.ofNat 98, Char.ofNat 53, Char.ofNat 50, Char.ofNat 97, Char.ofNat 57, Char.ofNat 55, Char.ofNat 51, Char.ofNat 52, Char.ofNat 57, Char.ofNat 54, Char.ofNat 32, Char.ofNat 99, Char.ofNat 117, Char.ofNat 116, Char.ofNat 32, Char.ofNat 97, Char.ofNat 116, Char.ofNat 32,
  Char.ofNat 104, Char.ofNat 105, Char.ofNat 98, Char.ofNat 101, Char.ofNat 114, Char.ofNat 110, Char.ofNat 97, Char.ofNat 99, Char.ofNat 108, Char.ofNat 101, Char.ofNat 47, Char.ofNat 104, Char.ofNat 105, Char.ofNat 98, Char.ofNat 101, Char.ofNat 114, Char.ofNat 110, Char.ofNat 97, Char.ofNat 99, Char.ofNat 108, Char.ofNat 101, Char.ofNat 108, Char.ofNat 97, Char.ofNat 119, Char.ofNat 48, Char.ofNat 52, Char.ofNat 46, Char.ofNat 83, Char.ofNat 116, Char.ofNat 97, Char.ofNat 99, Char.ofNat 107, Char.ofNat 77, Char.ofNat 97, Char.ofNat 121, Char.ofNat 32, Char.ofNat 104, Char.ofNat 105, Char.ofNat 98, Char.ofNat 101,
  Char.ofNat 114, Char.ofNat 110, Char.ofNat 97, Char.ofNat 99, Char.ofNat 108, Char.ofNat 101, Char.ofNat 47, Char.ofNat 104, Char.ofNat 105, Char.ofNat 98, Char.ofNat 101, Char.ofNat 114, Char.ofNat 110, Char.ofNat 97, Char.ofNat 99, Char.ofNat 108, Char.ofNat 101, Char.ofNat 108, Char.ofNat 97, Char.ofNat 119, Char.ofNat 48, Char.ofNat 52, Char.ofNat 46, Char.ofNat 83, Char.ofNat 116, Char.ofNat 97, Char.ofNat 99, Char.ofNat 107, Char.ofNat 83, Char.ofNat 97, Char.ofNat 109, Char.ofNat 101, Char.ofNat 32, Char.ofNat 104, Char.ofNat 105, Char.ofNat 98, Char.ofNat 101, Char.ofNat 114, Char.ofNat 110, Char.ofNat 97,
  Char.ofNat 99, Char.ofNat 108, Char.ofNat 101, Char.ofNat 47, Char.ofNat 104, Char.ofNat 105, Char.ofNat 98, Char.ofNat 101, Char.ofNat 114, Char.ofNat 110, Char.ofNat 97, Char.ofNat 99, Char.ofNat 108, Char.ofNat 101, Char.ofNat 108, Char.ofNat 97, Char.ofNat 119, Char.ofNat 48, Char.ofNat 53, Char.ofNat 46, Char.ofNat 86, Char.ofNat 109, Char.ofNat 83, Char.ofNat 116, Char.ofNat 101, Char.ofNat 112, Char.ofNat 115, Char.ofNat 32, Char.ofNat 104, Char.ofNat 105, Char.ofNat 98, Char.ofNat 101, Char.ofNat 114, Char.ofNat 110, Char.ofNat 97, Char.ofNat 99, Char.ofNat 108, Char.ofNat 101, Char.ofNat 47, Char.ofNat 104,
  Char.ofNat 105, Char.ofNat 98, Char.ofNat 101, Char.ofNat 114, Char.ofNat 110, Char.ofNat 97, Char.ofNat 99, Char.ofNat 108, Char.ofNat 101, Char.ofNat 108, Char.ofNat 97, Char.ofNat 119, Char.ofNat 48, Char.ofNat 53, Char.ofNat 46, Char.ofNat 86, Char.ofNat 109, Char.ofNat 84, Char.ofNat 101, Char.ofNat 108, Char.ofNat 108, Char.ofNat 115, Char.ofNat 32, Char.ofNat 104, Char.ofNat 105, Char.ofNat 98, Char.ofNat 101, Char.ofNat 114, Char.ofNat 110, Char.ofNat 97, Char.ofNat 99, Char.ofNat 108, Char.ofNat 101, Char.ofNat 47, Char.ofNat 104, Char.ofNat 105, Char.ofNat 98, Char.ofNat 101, Char.ofNat 114, Char.ofNat 110,
  Char.ofNat 97, Char.ofNat 99, Char.ofNat 108, Char.ofNat 101, Char.ofNat 108, Char.ofNat 97, Char.ofNat 119, Char.ofNat 48, Char.ofNat 53, Char.ofNat 46, Char.ofNat 86, Char.ofNat 109, Char.ofNat 82, Char.ofNat 117, Char.ofNat 110, Char.ofNat 115, Char.ofNat 32, Char.ofNat 104, Char.ofNat 105, Char.ofNat 98, Char.ofNat 101, Char.ofNat 114, Char.ofNat 110, Char.ofNat 97, Char.ofNat 99, Char.ofNat 108, Char.ofNat 101, Char.ofNat 47, Char.ofNat 104, Char.ofNat 105, Char.ofNat 98, Char.ofNat 101, Char.ofNat 114, Char.ofNat 110, Char.ofNat 97, Char.ofNat 99, Char.ofNat 108, Char.ofNat 101, Char.ofNat 108, Char.ofNat 97,
  Char.ofNat 119, Char.ofNat 48, Char.ofNat 53, Char.ofNat 46, Char.ofNat 86, Char.ofNat 109, Char.ofNat 69, Char.ofNat 110, Char.ofNat 100, Char.ofNat 115, Char.ofNat 32, Char.ofNat 104, Char.ofNat 105, Char.ofNat 98, Char.ofNat 101, Char.ofNat 114, Char.ofNat 110, Char.ofNat 97, Char.ofNat 99, Char.ofNat 108, Char.ofNat 101, Char.ofNat 47, Char.ofNat 104, Char.ofNat 105, Char.ofNat 98, Char.ofNat 101, Char.ofNat 114, Char.ofNat 110, Char.ofNat 97, Char.ofNat 99, Char.ofNat 108, Char.ofNat 101, Char.ofNat 108, Char.ofNat 97, Char.ofNat 119, Char.ofNat 48, Char.ofNat 53, Char.ofNat 46, Char.ofNat 86, Char.ofNat 109,
  Char.ofNat 83, Char.ofNat 117, Char.ofNat 109, Char.ofNat 115, Char.ofNat 32, Char.ofNat 104, Char.ofNat 105, Char.ofNat 98, Char.ofNat 101, Char.ofNat 114, Char.ofNat 110, Char.ofNat 97, Char.ofNat 99, Char.ofNat 108, Char.ofNat 101, Char.ofNat 47, Char.ofNat 104, Char.ofNat 105, Char.ofNat 98, Char.ofNat 101, Char.ofNat 114, Char.ofNat 110, Char.ofNat 97, Char.ofNat 99, Char.ofNat 108, Char.ofNat 101, Char.ofNat 108, Char.ofNat 97, Char.ofNat 119, Char.ofNat 48, Char.ofNat 53, Char.ofNat 46, Char.ofNat 86, Char.ofNat 109, Char.ofNat 90, Char.ofNat 101, Char.ofNat 114, Char.ofNat 111, Char.ofNat 115]
theorem order0 : Try.prog.initOrder = String.ofList orderL := by kernel_rfl
theorem order1 : Try.prog.initOrder.toList = orderL := by rw [order0]; exact String.toList_ofList
def cutL : List Char := [Char.ofNat 99, Char.ofNat 117, Char.ofNat 116]
def restL : List (List Char) := (wordsSigns orderL).drop 3
theorem behindMain : behindMainWord (wordsSigns orderL) = cutL :: restL := by kernel_rfl
theorem cutW1 : (cutL == "gc".toList) = false := by kernel_rfl
theorem cutW2 : (cutL == "spec".toList) = false := by kernel_rfl
theorem cutW3 : (cutL == "cut".toList) = true := by kernel_rfl
theorem cutW4 : (cutL == "carried".toList) = false := by kernel_rfl
theorem cutW5 : (some cutL == some "cut".toList) = true := by kernel_rfl
theorem cutW6 : stripLifts liftWords (cutL :: restL) = ([], cutL :: restL) := by kernel_rfl
theorem make_of (P : Program) (l : List Char) (h : P.initOrder.toList = l) (c : List Char) (r : List (List Char)) (hb : behindMainWord (wordsSigns l) = c :: r) (h1 : (c == "gc".toList) = false) (h2 : (c == "spec".toList) = false) (h3 : (c == "cut".toList) = true) : P.make = some Make.cut := by
  unfold Program.make
  rw [h, hb]
  simp only [h1, h2, h3, Bool.or_self, Bool.true_or, if_true, Bool.false_eq_true, if_false]
theorem enter_of (P : Program) (l : List Char) (h : P.initOrder.toList = l) (c : List Char) (r : List (List Char)) (hb : behindMainWord (wordsSigns l) = c :: r) (h1 : (c == "gc".toList) = false) (h2 : (c == "spec".toList) = false) (h4 : (c == "carried".toList) = false)
    (h5 : (some c == some "cut".toList) = true) (h6 : stripLifts liftWords (c :: r) = ([], c :: r)) (h7 : P.laysLater = false) (h8 : P.bearsReflect = false) (h9 : P.doorFits [] = true) : P.mayEnter = true := by
  unfold Program.mayEnter
  rw [h, hb, h7, h8]
  simp only [h1, h2, h4, h6, h5, h9, List.head?_cons, List.contains_nil, Bool.or_self, Bool.false_and, Bool.not_false, Bool.or_true, Bool.true_and, Bool.and_self, Bool.false_or, Bool.or_false]
theorem lifts_of (P : Program) (l : List Char) (h : P.initOrder.toList = l) (c : List Char) (r : List (List Char)) (hb : behindMainWord (wordsSigns l) = c :: r) (h4 : (some c == some "carried".toList) = false)
    (h6 : stripLifts liftWords (c :: r) = ([], c :: r)) : P.liftsFinal = false := by
  unfold Program.liftsFinal Program.headLifts
  rw [h, hb]
  simp only [h4, h6, List.head?_cons, Bool.false_and, Bool.false_or, ite_self, List.contains_nil]
theorem cutW7 : (some cutL == some "carried".toList) = false := by kernel_rfl
theorem f_make : Try.prog.make = some Make.cut := make_of _ orderL order1 cutL restL behindMain cutW1 cutW2 cutW3
theorem f_later : Try.prog.laysLater = false := by kernel_rfl
theorem f_reflect : Try.prog.bearsReflect = false := by kernel_rfl
theorem f_door : Try.prog.doorFits [] = true := by kernel_rfl
theorem f_enter : Try.prog.mayEnter = true := enter_of _ orderL order1 cutL restL behindMain cutW1 cutW2 cutW4 cutW5 cutW6 f_later f_reflect f_door
theorem f_lifts : Try.prog.liftsFinal = false := lifts_of _ orderL order1 cutL restL behindMain cutW7 cutW6
theorem f_laid : laidOutB Try.prog = true := by kernel_rfl
theorem f_maps : mapsRowed Try.prog = true := by kernel_rfl
theorem f_own : ownKnob Try.prog.godebug = none := by kernel_rfl
theorem f_heard : Try.prog.stopsHeard = true := by kernel_rfl
end Go.Proofs.Ytbgdgfnbdipjkaa
