/-
  No cell of these rows narrows 'for every input' (looked for: loops, veiled, ifaces, maps, wideKeys, modest, calm, conditions, laid).
  DERIVED. THE GIVEN ROWS OF THIS SEAT. 5 by the template 'for every input the law returns true; each argument reads behind the call as it read before'; 0 by the template 'total and deterministic' (their statements: YtipflplilkecjaaTotals.lean).
  GIVEN WITH THE SEED: the statements are not yours to turn. If you find one false, say at which input.
  Laid BY PROGRAM, IN A SANDBOX (cutbox-rows.mjs): the forced cells as the released guide's own fill.sh prints them over the translation 4a35900809963d36… (all of the seat's roots in one cut). By AI agents, Wed Nov 11 2026. No macro, syntax, notation, axiom, sorry.
-/
import Derived.Test.YtipflplilkecjaaChecked
import GoSem.Claim
import GoSem.ClaimJoined
import GoSem.ClaimMapViews
import Derived.JoinedTies
import Derived.KernelRfl
namespace Go.Proofs.Ytipflplilkecjaa
/- THE CELL 'sum', in the pinned program and in every row, IS THE sha256 OF THE DUMP (.gsa) THAT YtipflplilkecjaaProg.lean LOADS. Nothing in Lean hashes anything: it is a label: what it is worth is what the hold of that sum in a sandbox is worth. -/
noncomputable def Try.pinned : Pinned := { name := "ytipflplilkecjaa", sum := "4a35900809963d361e78abaec7ea7cafa813b34f7206480e6edc5b5f173d4221", checked := Try.checked }
namespace Rows
def none {H : Type} : Left H := { results := [], args := [] }

/-- 'hibernaclelaw07.DequePools': WHATEVER THE INPUT: true; the input reads as it did. -/
def dequePoolsSpec : ChangeSpec := { name := "dequePools", fn := fun _ => fun
  | [d1, d2, d3] => { results := [.lit (.bool true)], args := [d1, d2, d3] }
  | _ => none }
def dequePoolsRow : OpenClaim := { program := "ytipflplilkecjaa", sum := "4a35900809963d361e78abaec7ea7cafa813b34f7206480e6edc5b5f173d4221", func := "hibernacle/hibernaclelaw07.DequePools", spec := "dequePools", unfollowed := true, recurses := true, apart := false }
def DequePoolsSaid : Prop := dequePoolsRow.holds Try.pinned (OpenSpec.ofChange dequePoolsSpec)

/-- ITS FALSE NEIGHBOUR: 'it returns false'. Refute it at one input. -/
def dequePoolsWrong : ChangeSpec := { name := "dequePools", fn := fun _ => fun
  | [d1, d2, d3] => { results := [.lit (.bool false)], args := [d1, d2, d3] }
  | _ => none }
def DequePoolsWrongFalsely : Prop := dequePoolsRow.holds Try.pinned (OpenSpec.ofChange dequePoolsWrong)

/-- 'hibernaclelaw07.DequePlays': WHATEVER THE INPUT: true; the input reads as it did. -/
def dequePlaysSpec : ChangeSpec := { name := "dequePlays", fn := fun _ => fun
  | [d1, d2] => { results := [.lit (.bool true)], args := [d1, d2] }
  | _ => none }
def dequePlaysRow : OpenClaim := { program := "ytipflplilkecjaa", sum := "4a35900809963d361e78abaec7ea7cafa813b34f7206480e6edc5b5f173d4221", func := "hibernacle/hibernaclelaw07.DequePlays", spec := "dequePlays", apart := false }
def DequePlaysSaid : Prop := dequePlaysRow.holds Try.pinned (OpenSpec.ofChange dequePlaysSpec)

/-- ITS FALSE NEIGHBOUR: 'it returns false'. Refute it at one input. -/
def dequePlaysWrong : ChangeSpec := { name := "dequePlays", fn := fun _ => fun
  | [d1, d2] => { results := [.lit (.bool false)], args := [d1, d2] }
  | _ => none }
def DequePlaysWrongFalsely : Prop := dequePlaysRow.holds Try.pinned (OpenSpec.ofChange dequePlaysWrong)

/-- 'hibernaclelaw07.DequeOnce': WHATEVER THE INPUT: true; the input reads as it did. -/
def dequeOnceSpec : ChangeSpec := { name := "dequeOnce", fn := fun _ => fun
  | [d1, d2, d3] => { results := [.lit (.bool true)], args := [d1, d2, d3] }
  | _ => none }
def dequeOnceRow : OpenClaim := { program := "ytipflplilkecjaa", sum := "4a35900809963d361e78abaec7ea7cafa813b34f7206480e6edc5b5f173d4221", func := "hibernacle/hibernaclelaw07.DequeOnce", spec := "dequeOnce", unfollowed := true, recurses := true, apart := false }
def DequeOnceSaid : Prop := dequeOnceRow.holds Try.pinned (OpenSpec.ofChange dequeOnceSpec)

/-- ITS FALSE NEIGHBOUR: 'it returns false'. Refute it at one input. -/
def dequeOnceWrong : ChangeSpec := { name := "dequeOnce", fn := fun _ => fun
  | [d1, d2, d3] => { results := [.lit (.bool false)], args := [d1, d2, d3] }
  | _ => none }
def DequeOnceWrongFalsely : Prop := dequeOnceRow.holds Try.pinned (OpenSpec.ofChange dequeOnceWrong)

/-- 'hibernaclelaw07.DequeSurplus': WHATEVER THE INPUT: true; the input reads as it did. -/
def dequeSurplusSpec : ChangeSpec := { name := "dequeSurplus", fn := fun _ => fun
  | [d1, d2, d3] => { results := [.lit (.bool true)], args := [d1, d2, d3] }
  | _ => none }
def dequeSurplusRow : OpenClaim := { program := "ytipflplilkecjaa", sum := "4a35900809963d361e78abaec7ea7cafa813b34f7206480e6edc5b5f173d4221", func := "hibernacle/hibernaclelaw07.DequeSurplus", spec := "dequeSurplus", unfollowed := true, recurses := true, apart := false }
def DequeSurplusSaid : Prop := dequeSurplusRow.holds Try.pinned (OpenSpec.ofChange dequeSurplusSpec)

/-- ITS FALSE NEIGHBOUR: 'it returns false'. Refute it at one input. -/
def dequeSurplusWrong : ChangeSpec := { name := "dequeSurplus", fn := fun _ => fun
  | [d1, d2, d3] => { results := [.lit (.bool false)], args := [d1, d2, d3] }
  | _ => none }
def DequeSurplusWrongFalsely : Prop := dequeSurplusRow.holds Try.pinned (OpenSpec.ofChange dequeSurplusWrong)

/-- 'hibernaclelaw07.DequeEnds': WHATEVER THE INPUT: true; the input reads as it did. -/
def dequeEndsSpec : ChangeSpec := { name := "dequeEnds", fn := fun _ => fun
  | [d1, d2, d3] => { results := [.lit (.bool true)], args := [d1, d2, d3] }
  | _ => none }
def dequeEndsRow : OpenClaim := { program := "ytipflplilkecjaa", sum := "4a35900809963d361e78abaec7ea7cafa813b34f7206480e6edc5b5f173d4221", func := "hibernacle/hibernaclelaw07.DequeEnds", spec := "dequeEnds", apart := false }
def DequeEndsSaid : Prop := dequeEndsRow.holds Try.pinned (OpenSpec.ofChange dequeEndsSpec)

/-- ITS FALSE NEIGHBOUR: 'it returns false'. Refute it at one input. -/
def dequeEndsWrong : ChangeSpec := { name := "dequeEnds", fn := fun _ => fun
  | [d1, d2, d3] => { results := [.lit (.bool false)], args := [d1, d2, d3] }
  | _ => none }
def DequeEndsWrongFalsely : Prop := dequeEndsRow.holds Try.pinned (OpenSpec.ofChange dequeEndsWrong)

/- THE SECOND FORM. 'bulk': how many values and letters a reading holds, each counted each time it is reached (what is shared counts as often as it is met; a slice's spare places count too). A statement '..UptoSaid' is the law's where the arguments, and the package variables that the reading takes, are together of bulk at most 1048576: NARROWER than '..Said'. Prove '..Said' where nothing that the law and all that it calls make is longer than what came in: it says more and counts as full. Else prove '..UptoSaid'. A law counts once. -/
mutual
def uptoBulk {H : Type} : DataW H → Nat
  | .lit (.string bytes) => bytes.length + 1
  | .lit _ => 1
  | .nil => 1
  | .ptr d => uptoBulk d + 1
  | .slice elems spare => uptoBulkAll elems + uptoBulkAll spare + 1
  | .agg parts => uptoBulkAll parts + 1
  | .iface _ d => uptoBulk d + 1
  | .map entries => uptoBulkEntries entries + 1
  | .held _ => 1
def uptoBulkAll {H : Type} : List (DataW H) → Nat
  | [] => 0
  | d :: r => uptoBulk d + uptoBulkAll r
def uptoBulkEntries {H : Type} : List (Lit × DataW H) → Nat
  | [] => 0
  | x :: r => uptoBulkEntry x + uptoBulkEntries r
def uptoBulkEntry {H : Type} : Lit × DataW H → Nat
  | (.string bytes, d) => bytes.length + uptoBulk d + 1
  | (_, d) => uptoBulk d + 1
 end
def uptoSmall : (H : Type) → List (DataW H) → Bool := fun _ ds => decide (uptoBulkAll ds ≤ 1048576)
def OpenSpec.upto (s : _root_.Go.ChangeSpec) : _root_.Go.OpenSpec := { _root_.Go.OpenSpec.ofChange s with cond := some uptoSmall }

/-- 'hibernaclelaw07.DequePools', WHERE WHAT IT READS IS OF BULK AT MOST 1048576: true; the input reads as it did. -/
def dequePoolsUptoRow : OpenClaim := { program := "ytipflplilkecjaa", sum := "4a35900809963d361e78abaec7ea7cafa813b34f7206480e6edc5b5f173d4221", func := "hibernacle/hibernaclelaw07.DequePools", spec := "dequePools", unfollowed := true, recurses := true, apart := false, narrowed := true }
def DequePoolsUptoSaid : Prop := dequePoolsUptoRow.holds Try.pinned (OpenSpec.upto dequePoolsSpec)

/-- 'hibernaclelaw07.DequePlays', WHERE WHAT IT READS IS OF BULK AT MOST 1048576: true; the input reads as it did. -/
def dequePlaysUptoRow : OpenClaim := { program := "ytipflplilkecjaa", sum := "4a35900809963d361e78abaec7ea7cafa813b34f7206480e6edc5b5f173d4221", func := "hibernacle/hibernaclelaw07.DequePlays", spec := "dequePlays", apart := false, narrowed := true }
def DequePlaysUptoSaid : Prop := dequePlaysUptoRow.holds Try.pinned (OpenSpec.upto dequePlaysSpec)

/-- 'hibernaclelaw07.DequeOnce', WHERE WHAT IT READS IS OF BULK AT MOST 1048576: true; the input reads as it did. -/
def dequeOnceUptoRow : OpenClaim := { program := "ytipflplilkecjaa", sum := "4a35900809963d361e78abaec7ea7cafa813b34f7206480e6edc5b5f173d4221", func := "hibernacle/hibernaclelaw07.DequeOnce", spec := "dequeOnce", unfollowed := true, recurses := true, apart := false, narrowed := true }
def DequeOnceUptoSaid : Prop := dequeOnceUptoRow.holds Try.pinned (OpenSpec.upto dequeOnceSpec)

/-- 'hibernaclelaw07.DequeSurplus', WHERE WHAT IT READS IS OF BULK AT MOST 1048576: true; the input reads as it did. -/
def dequeSurplusUptoRow : OpenClaim := { program := "ytipflplilkecjaa", sum := "4a35900809963d361e78abaec7ea7cafa813b34f7206480e6edc5b5f173d4221", func := "hibernacle/hibernaclelaw07.DequeSurplus", spec := "dequeSurplus", unfollowed := true, recurses := true, apart := false, narrowed := true }
def DequeSurplusUptoSaid : Prop := dequeSurplusUptoRow.holds Try.pinned (OpenSpec.upto dequeSurplusSpec)

/-- 'hibernaclelaw07.DequeEnds', WHERE WHAT IT READS IS OF BULK AT MOST 1048576: true; the input reads as it did. -/
def dequeEndsUptoRow : OpenClaim := { program := "ytipflplilkecjaa", sum := "4a35900809963d361e78abaec7ea7cafa813b34f7206480e6edc5b5f173d4221", func := "hibernacle/hibernaclelaw07.DequeEnds", spec := "dequeEnds", apart := false, narrowed := true }
def DequeEndsUptoSaid : Prop := dequeEndsUptoRow.holds Try.pinned (OpenSpec.upto dequeEndsSpec)

end Rows
end Go.Proofs.Ytipflplilkecjaa
