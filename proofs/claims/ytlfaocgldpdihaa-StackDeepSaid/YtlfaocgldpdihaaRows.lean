/-
  No cell of these rows narrows 'for every input' (looked for: loops, veiled, ifaces, maps, wideKeys, modest, calm, conditions, laid).
  DERIVED. THE GIVEN ROWS OF THIS SEAT. 18 by the template 'for every input the law returns true; each argument reads behind the call as it read before'; 0 by the template 'total and deterministic' (their statements: YtlfaocgldpdihaaTotals.lean).
  GIVEN WITH THE SEED: the statements are not yours to turn. If you find one false, say at which input.
  Laid BY PROGRAM, IN A SANDBOX (cutbox-rows.mjs): the forced cells as the released guide's own fill.sh prints them over the translation d3f267b8013121ac… (all of the seat's roots in one cut). By AI agents, Wed Nov 11 2026. No macro, syntax, notation, axiom, sorry.
-/
import Derived.Test.YtlfaocgldpdihaaChecked
import GoSem.Claim
import GoSem.ClaimJoined
import GoSem.ClaimMapViews
import Derived.JoinedTies
import Derived.KernelRfl
namespace Go.Proofs.Ytlfaocgldpdihaa
/- THE CELL 'sum', in the pinned program and in every row, IS THE sha256 OF THE DUMP (.gsa) THAT YtlfaocgldpdihaaProg.lean LOADS. Nothing in Lean hashes anything: it is a label: what it is worth is what the hold of that sum in a sandbox is worth. -/
noncomputable def Try.pinned : Pinned := { name := "ytlfaocgldpdihaa", sum := "d3f267b8013121ac47de7d1a7ef3db01dd3a8e967d666a9658bfb74f09f8c45c", checked := Try.checked }
namespace Rows
def none {H : Type} : Left H := { results := [], args := [] }

/-- 'hibernaclelaw01.WireWrites': WHATEVER THE INPUT: true; the input reads as it did. -/
def wireWritesSpec : ChangeSpec := { name := "wireWrites", fn := fun _ => fun
  | [d] => { results := [.lit (.bool true)], args := [d] }
  | _ => none }
def wireWritesRow : OpenClaim := { program := "ytlfaocgldpdihaa", sum := "d3f267b8013121ac47de7d1a7ef3db01dd3a8e967d666a9658bfb74f09f8c45c", func := "hibernacle/hibernaclelaw01.WireWrites", spec := "wireWrites", apart := false }
def WireWritesSaid : Prop := wireWritesRow.holds Try.pinned (OpenSpec.ofChange wireWritesSpec)

/-- ITS FALSE NEIGHBOUR: 'it returns false'. Refute it at one input. -/
def wireWritesWrong : ChangeSpec := { name := "wireWrites", fn := fun _ => fun
  | [d] => { results := [.lit (.bool false)], args := [d] }
  | _ => none }
def WireWritesWrongFalsely : Prop := wireWritesRow.holds Try.pinned (OpenSpec.ofChange wireWritesWrong)

/-- 'hibernaclelaw01.WireReads': WHATEVER THE INPUT: true; the input reads as it did. -/
def wireReadsSpec : ChangeSpec := { name := "wireReads", fn := fun _ => fun
  | [d1, d2] => { results := [.lit (.bool true)], args := [d1, d2] }
  | _ => none }
def wireReadsRow : OpenClaim := { program := "ytlfaocgldpdihaa", sum := "d3f267b8013121ac47de7d1a7ef3db01dd3a8e967d666a9658bfb74f09f8c45c", func := "hibernacle/hibernaclelaw01.WireReads", spec := "wireReads", unfollowed := true, recurses := true, apart := false }
def WireReadsSaid : Prop := wireReadsRow.holds Try.pinned (OpenSpec.ofChange wireReadsSpec)

/-- ITS FALSE NEIGHBOUR: 'it returns false'. Refute it at one input. -/
def wireReadsWrong : ChangeSpec := { name := "wireReads", fn := fun _ => fun
  | [d1, d2] => { results := [.lit (.bool false)], args := [d1, d2] }
  | _ => none }
def WireReadsWrongFalsely : Prop := wireReadsRow.holds Try.pinned (OpenSpec.ofChange wireReadsWrong)

/-- 'hibernaclelaw01.WireRound': WHATEVER THE INPUT: true; the input reads as it did. -/
def wireRoundSpec : ChangeSpec := { name := "wireRound", fn := fun _ => fun
  | [d] => { results := [.lit (.bool true)], args := [d] }
  | _ => none }
def wireRoundRow : OpenClaim := { program := "ytlfaocgldpdihaa", sum := "d3f267b8013121ac47de7d1a7ef3db01dd3a8e967d666a9658bfb74f09f8c45c", func := "hibernacle/hibernaclelaw01.WireRound", spec := "wireRound", unfollowed := true, recurses := true, apart := false }
def WireRoundSaid : Prop := wireRoundRow.holds Try.pinned (OpenSpec.ofChange wireRoundSpec)

/-- ITS FALSE NEIGHBOUR: 'it returns false'. Refute it at one input. -/
def wireRoundWrong : ChangeSpec := { name := "wireRound", fn := fun _ => fun
  | [d] => { results := [.lit (.bool false)], args := [d] }
  | _ => none }
def WireRoundWrongFalsely : Prop := wireRoundRow.holds Try.pinned (OpenSpec.ofChange wireRoundWrong)

/-- 'hibernaclelaw01.WireOne': WHATEVER THE INPUT: true; the input reads as it did. -/
def wireOneSpec : ChangeSpec := { name := "wireOne", fn := fun _ => fun
  | [d] => { results := [.lit (.bool true)], args := [d] }
  | _ => none }
def wireOneRow : OpenClaim := { program := "ytlfaocgldpdihaa", sum := "d3f267b8013121ac47de7d1a7ef3db01dd3a8e967d666a9658bfb74f09f8c45c", func := "hibernacle/hibernaclelaw01.WireOne", spec := "wireOne", unfollowed := true, recurses := true, apart := false }
def WireOneSaid : Prop := wireOneRow.holds Try.pinned (OpenSpec.ofChange wireOneSpec)

/-- ITS FALSE NEIGHBOUR: 'it returns false'. Refute it at one input. -/
def wireOneWrong : ChangeSpec := { name := "wireOne", fn := fun _ => fun
  | [d] => { results := [.lit (.bool false)], args := [d] }
  | _ => none }
def WireOneWrongFalsely : Prop := wireOneRow.holds Try.pinned (OpenSpec.ofChange wireOneWrong)

/-- 'hibernaclelaw01.WireStops': WHATEVER THE INPUT: true; the input reads as it did. -/
def wireStopsSpec : ChangeSpec := { name := "wireStops", fn := fun _ => fun
  | [d1, d2, d3] => { results := [.lit (.bool true)], args := [d1, d2, d3] }
  | _ => none }
def wireStopsRow : OpenClaim := { program := "ytlfaocgldpdihaa", sum := "d3f267b8013121ac47de7d1a7ef3db01dd3a8e967d666a9658bfb74f09f8c45c", func := "hibernacle/hibernaclelaw01.WireStops", spec := "wireStops", unfollowed := true, recurses := true, apart := false }
def WireStopsSaid : Prop := wireStopsRow.holds Try.pinned (OpenSpec.ofChange wireStopsSpec)

/-- ITS FALSE NEIGHBOUR: 'it returns false'. Refute it at one input. -/
def wireStopsWrong : ChangeSpec := { name := "wireStops", fn := fun _ => fun
  | [d1, d2, d3] => { results := [.lit (.bool false)], args := [d1, d2, d3] }
  | _ => none }
def WireStopsWrongFalsely : Prop := wireStopsRow.holds Try.pinned (OpenSpec.ofChange wireStopsWrong)

/-- 'hibernaclelaw01.WireSizes': WHATEVER THE INPUT: true; the input reads as it did. -/
def wireSizesSpec : ChangeSpec := { name := "wireSizes", fn := fun _ => fun
  | [d1, d2, d3] => { results := [.lit (.bool true)], args := [d1, d2, d3] }
  | _ => none }
def wireSizesRow : OpenClaim := { program := "ytlfaocgldpdihaa", sum := "d3f267b8013121ac47de7d1a7ef3db01dd3a8e967d666a9658bfb74f09f8c45c", func := "hibernacle/hibernaclelaw01.WireSizes", spec := "wireSizes", apart := false }
def WireSizesSaid : Prop := wireSizesRow.holds Try.pinned (OpenSpec.ofChange wireSizesSpec)

/-- ITS FALSE NEIGHBOUR: 'it returns false'. Refute it at one input. -/
def wireSizesWrong : ChangeSpec := { name := "wireSizes", fn := fun _ => fun
  | [d1, d2, d3] => { results := [.lit (.bool false)], args := [d1, d2, d3] }
  | _ => none }
def WireSizesWrongFalsely : Prop := wireSizesRow.holds Try.pinned (OpenSpec.ofChange wireSizesWrong)

/-- 'hibernaclelaw01.WireClones': WHATEVER THE INPUT: true; the input reads as it did. -/
def wireClonesSpec : ChangeSpec := { name := "wireClones", fn := fun _ => fun
  | [d1, d2] => { results := [.lit (.bool true)], args := [d1, d2] }
  | _ => none }
def wireClonesRow : OpenClaim := { program := "ytlfaocgldpdihaa", sum := "d3f267b8013121ac47de7d1a7ef3db01dd3a8e967d666a9658bfb74f09f8c45c", func := "hibernacle/hibernaclelaw01.WireClones", spec := "wireClones", unfollowed := true, recurses := true, apart := false }
def WireClonesSaid : Prop := wireClonesRow.holds Try.pinned (OpenSpec.ofChange wireClonesSpec)

/-- ITS FALSE NEIGHBOUR: 'it returns false'. Refute it at one input. -/
def wireClonesWrong : ChangeSpec := { name := "wireClones", fn := fun _ => fun
  | [d1, d2] => { results := [.lit (.bool false)], args := [d1, d2] }
  | _ => none }
def WireClonesWrongFalsely : Prop := wireClonesRow.holds Try.pinned (OpenSpec.ofChange wireClonesWrong)

/-- 'hibernaclelaw03.CodeMay': WHATEVER THE INPUT: true; the input reads as it did. -/
def codeMaySpec : ChangeSpec := { name := "codeMay", fn := fun _ => fun
  | [d] => { results := [.lit (.bool true)], args := [d] }
  | _ => none }
def codeMayRow : OpenClaim := { program := "ytlfaocgldpdihaa", sum := "d3f267b8013121ac47de7d1a7ef3db01dd3a8e967d666a9658bfb74f09f8c45c", func := "hibernacle/hibernaclelaw03.CodeMay", spec := "codeMay", unfollowed := true, recurses := true, apart := false }
def CodeMaySaid : Prop := codeMayRow.holds Try.pinned (OpenSpec.ofChange codeMaySpec)

/-- ITS FALSE NEIGHBOUR: 'it returns false'. Refute it at one input. -/
def codeMayWrong : ChangeSpec := { name := "codeMay", fn := fun _ => fun
  | [d] => { results := [.lit (.bool false)], args := [d] }
  | _ => none }
def CodeMayWrongFalsely : Prop := codeMayRow.holds Try.pinned (OpenSpec.ofChange codeMayWrong)

/-- 'hibernaclelaw03.CodeRound': WHATEVER THE INPUT: true; the input reads as it did. -/
def codeRoundSpec : ChangeSpec := { name := "codeRound", fn := fun _ => fun
  | [d] => { results := [.lit (.bool true)], args := [d] }
  | _ => none }
def codeRoundRow : OpenClaim := { program := "ytlfaocgldpdihaa", sum := "d3f267b8013121ac47de7d1a7ef3db01dd3a8e967d666a9658bfb74f09f8c45c", func := "hibernacle/hibernaclelaw03.CodeRound", spec := "codeRound", unfollowed := true, recurses := true, apart := false }
def CodeRoundSaid : Prop := codeRoundRow.holds Try.pinned (OpenSpec.ofChange codeRoundSpec)

/-- ITS FALSE NEIGHBOUR: 'it returns false'. Refute it at one input. -/
def codeRoundWrong : ChangeSpec := { name := "codeRound", fn := fun _ => fun
  | [d] => { results := [.lit (.bool false)], args := [d] }
  | _ => none }
def CodeRoundWrongFalsely : Prop := codeRoundRow.holds Try.pinned (OpenSpec.ofChange codeRoundWrong)

/-- 'hibernaclelaw03.CodeReads': WHATEVER THE INPUT: true; the input reads as it did. -/
def codeReadsSpec : ChangeSpec := { name := "codeReads", fn := fun _ => fun
  | [d1, d2, d3, d4, d5] => { results := [.lit (.bool true)], args := [d1, d2, d3, d4, d5] }
  | _ => none }
def codeReadsRow : OpenClaim := { program := "ytlfaocgldpdihaa", sum := "d3f267b8013121ac47de7d1a7ef3db01dd3a8e967d666a9658bfb74f09f8c45c", func := "hibernacle/hibernaclelaw03.CodeReads", spec := "codeReads", unfollowed := true, recurses := true, apart := false }
def CodeReadsSaid : Prop := codeReadsRow.holds Try.pinned (OpenSpec.ofChange codeReadsSpec)

/-- ITS FALSE NEIGHBOUR: 'it returns false'. Refute it at one input. -/
def codeReadsWrong : ChangeSpec := { name := "codeReads", fn := fun _ => fun
  | [d1, d2, d3, d4, d5] => { results := [.lit (.bool false)], args := [d1, d2, d3, d4, d5] }
  | _ => none }
def CodeReadsWrongFalsely : Prop := codeReadsRow.holds Try.pinned (OpenSpec.ofChange codeReadsWrong)

/-- 'hibernaclelaw03.CodeApart': WHATEVER THE INPUT: true; the input reads as it did. -/
def codeApartSpec : ChangeSpec := { name := "codeApart", fn := fun _ => fun
  | [d1, d2] => { results := [.lit (.bool true)], args := [d1, d2] }
  | _ => none }
def codeApartRow : OpenClaim := { program := "ytlfaocgldpdihaa", sum := "d3f267b8013121ac47de7d1a7ef3db01dd3a8e967d666a9658bfb74f09f8c45c", func := "hibernacle/hibernaclelaw03.CodeApart", spec := "codeApart", unfollowed := true, recurses := true, apart := false }
def CodeApartSaid : Prop := codeApartRow.holds Try.pinned (OpenSpec.ofChange codeApartSpec)

/-- ITS FALSE NEIGHBOUR: 'it returns false'. Refute it at one input. -/
def codeApartWrong : ChangeSpec := { name := "codeApart", fn := fun _ => fun
  | [d1, d2] => { results := [.lit (.bool false)], args := [d1, d2] }
  | _ => none }
def CodeApartWrongFalsely : Prop := codeApartRow.holds Try.pinned (OpenSpec.ofChange codeApartWrong)

/-- 'hibernaclelaw03.CodeAt': WHATEVER THE INPUT: true; the input reads as it did. -/
def codeAtSpec : ChangeSpec := { name := "codeAt", fn := fun _ => fun
  | [d1, d2, d3] => { results := [.lit (.bool true)], args := [d1, d2, d3] }
  | _ => none }
def codeAtRow : OpenClaim := { program := "ytlfaocgldpdihaa", sum := "d3f267b8013121ac47de7d1a7ef3db01dd3a8e967d666a9658bfb74f09f8c45c", func := "hibernacle/hibernaclelaw03.CodeAt", spec := "codeAt", unfollowed := true, recurses := true, apart := false }
def CodeAtSaid : Prop := codeAtRow.holds Try.pinned (OpenSpec.ofChange codeAtSpec)

/-- ITS FALSE NEIGHBOUR: 'it returns false'. Refute it at one input. -/
def codeAtWrong : ChangeSpec := { name := "codeAt", fn := fun _ => fun
  | [d1, d2, d3] => { results := [.lit (.bool false)], args := [d1, d2, d3] }
  | _ => none }
def CodeAtWrongFalsely : Prop := codeAtRow.holds Try.pinned (OpenSpec.ofChange codeAtWrong)

/-- 'hibernaclelaw03.CodeEdges': WHATEVER THE INPUT: true; the input reads as it did. -/
def codeEdgesSpec : ChangeSpec := { name := "codeEdges", fn := fun _ => fun
  | [d1, d2, d3, d4] => { results := [.lit (.bool true)], args := [d1, d2, d3, d4] }
  | _ => none }
def codeEdgesRow : OpenClaim := { program := "ytlfaocgldpdihaa", sum := "d3f267b8013121ac47de7d1a7ef3db01dd3a8e967d666a9658bfb74f09f8c45c", func := "hibernacle/hibernaclelaw03.CodeEdges", spec := "codeEdges", unfollowed := true, recurses := true, apart := false }
def CodeEdgesSaid : Prop := codeEdgesRow.holds Try.pinned (OpenSpec.ofChange codeEdgesSpec)

/-- ITS FALSE NEIGHBOUR: 'it returns false'. Refute it at one input. -/
def codeEdgesWrong : ChangeSpec := { name := "codeEdges", fn := fun _ => fun
  | [d1, d2, d3, d4] => { results := [.lit (.bool false)], args := [d1, d2, d3, d4] }
  | _ => none }
def CodeEdgesWrongFalsely : Prop := codeEdgesRow.holds Try.pinned (OpenSpec.ofChange codeEdgesWrong)

/-- 'hibernaclelaw04.StackKeeps': WHATEVER THE INPUT: true; the input reads as it did. -/
def stackKeepsSpec : ChangeSpec := { name := "stackKeeps", fn := fun _ => fun
  | [d1, d2, d3, d4] => { results := [.lit (.bool true)], args := [d1, d2, d3, d4] }
  | _ => none }
def stackKeepsRow : OpenClaim := { program := "ytlfaocgldpdihaa", sum := "d3f267b8013121ac47de7d1a7ef3db01dd3a8e967d666a9658bfb74f09f8c45c", func := "hibernacle/hibernaclelaw04.StackKeeps", spec := "stackKeeps", apart := false }
def StackKeepsSaid : Prop := stackKeepsRow.holds Try.pinned (OpenSpec.ofChange stackKeepsSpec)

/-- ITS FALSE NEIGHBOUR: 'it returns false'. Refute it at one input. -/
def stackKeepsWrong : ChangeSpec := { name := "stackKeeps", fn := fun _ => fun
  | [d1, d2, d3, d4] => { results := [.lit (.bool false)], args := [d1, d2, d3, d4] }
  | _ => none }
def StackKeepsWrongFalsely : Prop := stackKeepsRow.holds Try.pinned (OpenSpec.ofChange stackKeepsWrong)

/-- 'hibernaclelaw04.StackMay': WHATEVER THE INPUT: true; the input reads as it did. -/
def stackMaySpec : ChangeSpec := { name := "stackMay", fn := fun _ => fun
  | [d1, d2, d3, d4] => { results := [.lit (.bool true)], args := [d1, d2, d3, d4] }
  | _ => none }
def stackMayRow : OpenClaim := { program := "ytlfaocgldpdihaa", sum := "d3f267b8013121ac47de7d1a7ef3db01dd3a8e967d666a9658bfb74f09f8c45c", func := "hibernacle/hibernaclelaw04.StackMay", spec := "stackMay", apart := false }
def StackMaySaid : Prop := stackMayRow.holds Try.pinned (OpenSpec.ofChange stackMaySpec)

/-- ITS FALSE NEIGHBOUR: 'it returns false'. Refute it at one input. -/
def stackMayWrong : ChangeSpec := { name := "stackMay", fn := fun _ => fun
  | [d1, d2, d3, d4] => { results := [.lit (.bool false)], args := [d1, d2, d3, d4] }
  | _ => none }
def StackMayWrongFalsely : Prop := stackMayRow.holds Try.pinned (OpenSpec.ofChange stackMayWrong)

/-- 'hibernaclelaw04.StackRound': WHATEVER THE INPUT: true; the input reads as it did. -/
def stackRoundSpec : ChangeSpec := { name := "stackRound", fn := fun _ => fun
  | [d1, d2, d3] => { results := [.lit (.bool true)], args := [d1, d2, d3] }
  | _ => none }
def stackRoundRow : OpenClaim := { program := "ytlfaocgldpdihaa", sum := "d3f267b8013121ac47de7d1a7ef3db01dd3a8e967d666a9658bfb74f09f8c45c", func := "hibernacle/hibernaclelaw04.StackRound", spec := "stackRound", apart := false }
def StackRoundSaid : Prop := stackRoundRow.holds Try.pinned (OpenSpec.ofChange stackRoundSpec)

/-- ITS FALSE NEIGHBOUR: 'it returns false'. Refute it at one input. -/
def stackRoundWrong : ChangeSpec := { name := "stackRound", fn := fun _ => fun
  | [d1, d2, d3] => { results := [.lit (.bool false)], args := [d1, d2, d3] }
  | _ => none }
def StackRoundWrongFalsely : Prop := stackRoundRow.holds Try.pinned (OpenSpec.ofChange stackRoundWrong)

/-- 'hibernaclelaw04.StackSame': WHATEVER THE INPUT: true; the input reads as it did. -/
def stackSameSpec : ChangeSpec := { name := "stackSame", fn := fun _ => fun
  | [d1, d2, d3] => { results := [.lit (.bool true)], args := [d1, d2, d3] }
  | _ => none }
def stackSameRow : OpenClaim := { program := "ytlfaocgldpdihaa", sum := "d3f267b8013121ac47de7d1a7ef3db01dd3a8e967d666a9658bfb74f09f8c45c", func := "hibernacle/hibernaclelaw04.StackSame", spec := "stackSame", unfollowed := true, recurses := true, apart := false }
def StackSameSaid : Prop := stackSameRow.holds Try.pinned (OpenSpec.ofChange stackSameSpec)

/-- ITS FALSE NEIGHBOUR: 'it returns false'. Refute it at one input. -/
def stackSameWrong : ChangeSpec := { name := "stackSame", fn := fun _ => fun
  | [d1, d2, d3] => { results := [.lit (.bool false)], args := [d1, d2, d3] }
  | _ => none }
def StackSameWrongFalsely : Prop := stackSameRow.holds Try.pinned (OpenSpec.ofChange stackSameWrong)

/-- 'hibernaclelaw04.StackDeep': WHATEVER THE INPUT: true; the input reads as it did. -/
def stackDeepSpec : ChangeSpec := { name := "stackDeep", fn := fun _ => fun
  | [d1, d2, d3] => { results := [.lit (.bool true)], args := [d1, d2, d3] }
  | _ => none }
def stackDeepRow : OpenClaim := { program := "ytlfaocgldpdihaa", sum := "d3f267b8013121ac47de7d1a7ef3db01dd3a8e967d666a9658bfb74f09f8c45c", func := "hibernacle/hibernaclelaw04.StackDeep", spec := "stackDeep", apart := false }
def StackDeepSaid : Prop := stackDeepRow.holds Try.pinned (OpenSpec.ofChange stackDeepSpec)

/-- ITS FALSE NEIGHBOUR: 'it returns false'. Refute it at one input. -/
def stackDeepWrong : ChangeSpec := { name := "stackDeep", fn := fun _ => fun
  | [d1, d2, d3] => { results := [.lit (.bool false)], args := [d1, d2, d3] }
  | _ => none }
def StackDeepWrongFalsely : Prop := stackDeepRow.holds Try.pinned (OpenSpec.ofChange stackDeepWrong)

/- THE SECOND FORM. 'bulk': how many values and letters a reading holds, each counted each time it is reached (what is shared counts as often as it is met; a slice's spare places count too). A statement '..UptoSaid' is the law's where the arguments, and the package variables that the reading takes, are together of bulk at most 1048576: NARROWER than '..Said'. Prove '..Said' where nothing that the law and all that it calls make is longer than what came in: it says more and counts as full. Else prove '..UptoSaid'. A law counts once. -/
mutual
def uptoBulk {H : Type} : DataW H → Nat
  | .lit (.string bytes) => bytes.length + 1
  | .lit _ => 1
  | .nil => 1
  | .ptr d => uptoBulk d + 1
  | .slice elems spare => uptoBulkAll elems + uptoBulkAll spare + 1
  | .agg parts => uptoBulkAll parts + 1
  | .iface _ d => uptoBulk d + 1
  | .map entries => uptoBulkEntries entries + 1
  | .held _ => 1
def uptoBulkAll {H : Type} : List (DataW H) → Nat
  | [] => 0
  | d :: r => uptoBulk d + uptoBulkAll r
def uptoBulkEntries {H : Type} : List (Lit × DataW H) → Nat
  | [] => 0
  | x :: r => uptoBulkEntry x + uptoBulkEntries r
def uptoBulkEntry {H : Type} : Lit × DataW H → Nat
  | (.string bytes, d) => bytes.length + uptoBulk d + 1
  | (_, d) => uptoBulk d + 1
 end
def uptoSmall : (H : Type) → List (DataW H) → Bool := fun _ ds => decide (uptoBulkAll ds ≤ 1048576)
def OpenSpec.upto (s : _root_.Go.ChangeSpec) : _root_.Go.OpenSpec := { _root_.Go.OpenSpec.ofChange s with cond := some uptoSmall }

/-- 'hibernaclelaw01.WireWrites', WHERE WHAT IT READS IS OF BULK AT MOST 1048576: true; the input reads as it did. -/
def wireWritesUptoRow : OpenClaim := { program := "ytlfaocgldpdihaa", sum := "d3f267b8013121ac47de7d1a7ef3db01dd3a8e967d666a9658bfb74f09f8c45c", func := "hibernacle/hibernaclelaw01.WireWrites", spec := "wireWrites", apart := false, narrowed := true }
def WireWritesUptoSaid : Prop := wireWritesUptoRow.holds Try.pinned (OpenSpec.upto wireWritesSpec)

/-- 'hibernaclelaw01.WireReads', WHERE WHAT IT READS IS OF BULK AT MOST 1048576: true; the input reads as it did. -/
def wireReadsUptoRow : OpenClaim := { program := "ytlfaocgldpdihaa", sum := "d3f267b8013121ac47de7d1a7ef3db01dd3a8e967d666a9658bfb74f09f8c45c", func := "hibernacle/hibernaclelaw01.WireReads", spec := "wireReads", unfollowed := true, recurses := true, apart := false, narrowed := true }
def WireReadsUptoSaid : Prop := wireReadsUptoRow.holds Try.pinned (OpenSpec.upto wireReadsSpec)

/-- 'hibernaclelaw01.WireRound', WHERE WHAT IT READS IS OF BULK AT MOST 1048576: true; the input reads as it did. -/
def wireRoundUptoRow : OpenClaim := { program := "ytlfaocgldpdihaa", sum := "d3f267b8013121ac47de7d1a7ef3db01dd3a8e967d666a9658bfb74f09f8c45c", func := "hibernacle/hibernaclelaw01.WireRound", spec := "wireRound", unfollowed := true, recurses := true, apart := false, narrowed := true }
def WireRoundUptoSaid : Prop := wireRoundUptoRow.holds Try.pinned (OpenSpec.upto wireRoundSpec)

/-- 'hibernaclelaw01.WireOne', WHERE WHAT IT READS IS OF BULK AT MOST 1048576: true; the input reads as it did. -/
def wireOneUptoRow : OpenClaim := { program := "ytlfaocgldpdihaa", sum := "d3f267b8013121ac47de7d1a7ef3db01dd3a8e967d666a9658bfb74f09f8c45c", func := "hibernacle/hibernaclelaw01.WireOne", spec := "wireOne", unfollowed := true, recurses := true, apart := false, narrowed := true }
def WireOneUptoSaid : Prop := wireOneUptoRow.holds Try.pinned (OpenSpec.upto wireOneSpec)

/-- 'hibernaclelaw01.WireStops', WHERE WHAT IT READS IS OF BULK AT MOST 1048576: true; the input reads as it did. -/
def wireStopsUptoRow : OpenClaim := { program := "ytlfaocgldpdihaa", sum := "d3f267b8013121ac47de7d1a7ef3db01dd3a8e967d666a9658bfb74f09f8c45c", func := "hibernacle/hibernaclelaw01.WireStops", spec := "wireStops", unfollowed := true, recurses := true, apart := false, narrowed := true }
def WireStopsUptoSaid : Prop := wireStopsUptoRow.holds Try.pinned (OpenSpec.upto wireStopsSpec)

/-- 'hibernaclelaw01.WireSizes', WHERE WHAT IT READS IS OF BULK AT MOST 1048576: true; the input reads as it did. -/
def wireSizesUptoRow : OpenClaim := { program := "ytlfaocgldpdihaa", sum := "d3f267b8013121ac47de7d1a7ef3db01dd3a8e967d666a9658bfb74f09f8c45c", func := "hibernacle/hibernaclelaw01.WireSizes", spec := "wireSizes", apart := false, narrowed := true }
def WireSizesUptoSaid : Prop := wireSizesUptoRow.holds Try.pinned (OpenSpec.upto wireSizesSpec)

/-- 'hibernaclelaw01.WireClones', WHERE WHAT IT READS IS OF BULK AT MOST 1048576: true; the input reads as it did. -/
def wireClonesUptoRow : OpenClaim := { program := "ytlfaocgldpdihaa", sum := "d3f267b8013121ac47de7d1a7ef3db01dd3a8e967d666a9658bfb74f09f8c45c", func := "hibernacle/hibernaclelaw01.WireClones", spec := "wireClones", unfollowed := true, recurses := true, apart := false, narrowed := true }
def WireClonesUptoSaid : Prop := wireClonesUptoRow.holds Try.pinned (OpenSpec.upto wireClonesSpec)

/-- 'hibernaclelaw03.CodeMay', WHERE WHAT IT READS IS OF BULK AT MOST 1048576: true; the input reads as it did. -/
def codeMayUptoRow : OpenClaim := { program := "ytlfaocgldpdihaa", sum := "d3f267b8013121ac47de7d1a7ef3db01dd3a8e967d666a9658bfb74f09f8c45c", func := "hibernacle/hibernaclelaw03.CodeMay", spec := "codeMay", unfollowed := true, recurses := true, apart := false, narrowed := true }
def CodeMayUptoSaid : Prop := codeMayUptoRow.holds Try.pinned (OpenSpec.upto codeMaySpec)

/-- 'hibernaclelaw03.CodeRound', WHERE WHAT IT READS IS OF BULK AT MOST 1048576: true; the input reads as it did. -/
def codeRoundUptoRow : OpenClaim := { program := "ytlfaocgldpdihaa", sum := "d3f267b8013121ac47de7d1a7ef3db01dd3a8e967d666a9658bfb74f09f8c45c", func := "hibernacle/hibernaclelaw03.CodeRound", spec := "codeRound", unfollowed := true, recurses := true, apart := false, narrowed := true }
def CodeRoundUptoSaid : Prop := codeRoundUptoRow.holds Try.pinned (OpenSpec.upto codeRoundSpec)

/-- 'hibernaclelaw03.CodeReads', WHERE WHAT IT READS IS OF BULK AT MOST 1048576: true; the input reads as it did. -/
def codeReadsUptoRow : OpenClaim := { program := "ytlfaocgldpdihaa", sum := "d3f267b8013121ac47de7d1a7ef3db01dd3a8e967d666a9658bfb74f09f8c45c", func := "hibernacle/hibernaclelaw03.CodeReads", spec := "codeReads", unfollowed := true, recurses := true, apart := false, narrowed := true }
def CodeReadsUptoSaid : Prop := codeReadsUptoRow.holds Try.pinned (OpenSpec.upto codeReadsSpec)

/-- 'hibernaclelaw03.CodeApart', WHERE WHAT IT READS IS OF BULK AT MOST 1048576: true; the input reads as it did. -/
def codeApartUptoRow : OpenClaim := { program := "ytlfaocgldpdihaa", sum := "d3f267b8013121ac47de7d1a7ef3db01dd3a8e967d666a9658bfb74f09f8c45c", func := "hibernacle/hibernaclelaw03.CodeApart", spec := "codeApart", unfollowed := true, recurses := true, apart := false, narrowed := true }
def CodeApartUptoSaid : Prop := codeApartUptoRow.holds Try.pinned (OpenSpec.upto codeApartSpec)

/-- 'hibernaclelaw03.CodeAt', WHERE WHAT IT READS IS OF BULK AT MOST 1048576: true; the input reads as it did. -/
def codeAtUptoRow : OpenClaim := { program := "ytlfaocgldpdihaa", sum := "d3f267b8013121ac47de7d1a7ef3db01dd3a8e967d666a9658bfb74f09f8c45c", func := "hibernacle/hibernaclelaw03.CodeAt", spec := "codeAt", unfollowed := true, recurses := true, apart := false, narrowed := true }
def CodeAtUptoSaid : Prop := codeAtUptoRow.holds Try.pinned (OpenSpec.upto codeAtSpec)

/-- 'hibernaclelaw03.CodeEdges', WHERE WHAT IT READS IS OF BULK AT MOST 1048576: true; the input reads as it did. -/
def codeEdgesUptoRow : OpenClaim := { program := "ytlfaocgldpdihaa", sum := "d3f267b8013121ac47de7d1a7ef3db01dd3a8e967d666a9658bfb74f09f8c45c", func := "hibernacle/hibernaclelaw03.CodeEdges", spec := "codeEdges", unfollowed := true, recurses := true, apart := false, narrowed := true }
def CodeEdgesUptoSaid : Prop := codeEdgesUptoRow.holds Try.pinned (OpenSpec.upto codeEdgesSpec)

/-- 'hibernaclelaw04.StackKeeps', WHERE WHAT IT READS IS OF BULK AT MOST 1048576: true; the input reads as it did. -/
def stackKeepsUptoRow : OpenClaim := { program := "ytlfaocgldpdihaa", sum := "d3f267b8013121ac47de7d1a7ef3db01dd3a8e967d666a9658bfb74f09f8c45c", func := "hibernacle/hibernaclelaw04.StackKeeps", spec := "stackKeeps", apart := false, narrowed := true }
def StackKeepsUptoSaid : Prop := stackKeepsUptoRow.holds Try.pinned (OpenSpec.upto stackKeepsSpec)

/-- 'hibernaclelaw04.StackMay', WHERE WHAT IT READS IS OF BULK AT MOST 1048576: true; the input reads as it did. -/
def stackMayUptoRow : OpenClaim := { program := "ytlfaocgldpdihaa", sum := "d3f267b8013121ac47de7d1a7ef3db01dd3a8e967d666a9658bfb74f09f8c45c", func := "hibernacle/hibernaclelaw04.StackMay", spec := "stackMay", apart := false, narrowed := true }
def StackMayUptoSaid : Prop := stackMayUptoRow.holds Try.pinned (OpenSpec.upto stackMaySpec)

/-- 'hibernaclelaw04.StackRound', WHERE WHAT IT READS IS OF BULK AT MOST 1048576: true; the input reads as it did. -/
def stackRoundUptoRow : OpenClaim := { program := "ytlfaocgldpdihaa", sum := "d3f267b8013121ac47de7d1a7ef3db01dd3a8e967d666a9658bfb74f09f8c45c", func := "hibernacle/hibernaclelaw04.StackRound", spec := "stackRound", apart := false, narrowed := true }
def StackRoundUptoSaid : Prop := stackRoundUptoRow.holds Try.pinned (OpenSpec.upto stackRoundSpec)

/-- 'hibernaclelaw04.StackSame', WHERE WHAT IT READS IS OF BULK AT MOST 1048576: true; the input reads as it did. -/
def stackSameUptoRow : OpenClaim := { program := "ytlfaocgldpdihaa", sum := "d3f267b8013121ac47de7d1a7ef3db01dd3a8e967d666a9658bfb74f09f8c45c", func := "hibernacle/hibernaclelaw04.StackSame", spec := "stackSame", unfollowed := true, recurses := true, apart := false, narrowed := true }
def StackSameUptoSaid : Prop := stackSameUptoRow.holds Try.pinned (OpenSpec.upto stackSameSpec)

/-- 'hibernaclelaw04.StackDeep', WHERE WHAT IT READS IS OF BULK AT MOST 1048576: true; the input reads as it did. -/
def stackDeepUptoRow : OpenClaim := { program := "ytlfaocgldpdihaa", sum := "d3f267b8013121ac47de7d1a7ef3db01dd3a8e967d666a9658bfb74f09f8c45c", func := "hibernacle/hibernaclelaw04.StackDeep", spec := "stackDeep", apart := false, narrowed := true }
def StackDeepUptoSaid : Prop := stackDeepUptoRow.holds Try.pinned (OpenSpec.upto stackDeepSpec)

end Rows
end Go.Proofs.Ytlfaocgldpdihaa
