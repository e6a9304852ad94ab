/-
  No cell of these rows narrows 'for every input' (looked for: loops, veiled, ifaces, maps, wideKeys, modest, calm, conditions, laid).
  DERIVED. THE GIVEN ROWS OF THIS SEAT. 5 by the template 'for every input the law returns true; each argument reads behind the call as it read before'; 0 by the template 'total and deterministic' (their statements: YtikelkfinjcgaaaTotals.lean).
  GIVEN WITH THE SEED: the statements are not yours to turn. If you find one false, say at which input.
  Laid BY PROGRAM, IN A SANDBOX (cutbox-rows.mjs): the forced cells as the released guide's own fill.sh prints them over the translation a752b49658948e73… (all of the seat's roots in one cut). By AI agents, Wed Nov 11 2026. No macro, syntax, notation, axiom, sorry.
-/
import Derived.Test.YtikelkfinjcgaaaChecked
import GoSem.Claim
import GoSem.ClaimJoined
import GoSem.ClaimMapViews
import Derived.JoinedTies
import Derived.KernelRfl
namespace Go.Proofs.Ytikelkfinjcgaaa
/- THE CELL 'sum', in the pinned program and in every row, IS THE sha256 OF THE DUMP (.gsa) THAT YtikelkfinjcgaaaProg.lean LOADS. Nothing in Lean hashes anything: it is a label: what it is worth is what the hold of that sum in a sandbox is worth. -/
noncomputable def Try.pinned : Pinned := { name := "ytikelkfinjcgaaa", sum := "a752b49658948e73e8f2b675613af5ae9d09c6068b2c1152ad808973609eafb6", checked := Try.checked }
namespace Rows
def none {H : Type} : Left H := { results := [], args := [] }

/-- 'hibernaclelaw09.LocksPlay': WHATEVER THE INPUT: true; the input reads as it did. -/
def locksPlaySpec : ChangeSpec := { name := "locksPlay", fn := fun _ => fun
  | [d1, d2, d3, d4] => { results := [.lit (.bool true)], args := [d1, d2, d3, d4] }
  | _ => none }
def locksPlayRow : OpenClaim := { program := "ytikelkfinjcgaaa", sum := "a752b49658948e73e8f2b675613af5ae9d09c6068b2c1152ad808973609eafb6", func := "hibernacle/hibernaclelaw09.LocksPlay", spec := "locksPlay", unfollowed := true, recurses := true, apart := false }
def LocksPlaySaid : Prop := locksPlayRow.holds Try.pinned (OpenSpec.ofChange locksPlaySpec)

/-- ITS FALSE NEIGHBOUR: 'it returns false'. Refute it at one input. -/
def locksPlayWrong : ChangeSpec := { name := "locksPlay", fn := fun _ => fun
  | [d1, d2, d3, d4] => { results := [.lit (.bool false)], args := [d1, d2, d3, d4] }
  | _ => none }
def LocksPlayWrongFalsely : Prop := locksPlayRow.holds Try.pinned (OpenSpec.ofChange locksPlayWrong)

/-- 'hibernaclelaw09.LocksHold': WHATEVER THE INPUT: true; the input reads as it did. -/
def locksHoldSpec : ChangeSpec := { name := "locksHold", fn := fun _ => fun
  | [d1, d2, d3, d4] => { results := [.lit (.bool true)], args := [d1, d2, d3, d4] }
  | _ => none }
def locksHoldRow : OpenClaim := { program := "ytikelkfinjcgaaa", sum := "a752b49658948e73e8f2b675613af5ae9d09c6068b2c1152ad808973609eafb6", func := "hibernacle/hibernaclelaw09.LocksHold", spec := "locksHold", unfollowed := true, recurses := true, apart := false }
def LocksHoldSaid : Prop := locksHoldRow.holds Try.pinned (OpenSpec.ofChange locksHoldSpec)

/-- ITS FALSE NEIGHBOUR: 'it returns false'. Refute it at one input. -/
def locksHoldWrong : ChangeSpec := { name := "locksHold", fn := fun _ => fun
  | [d1, d2, d3, d4] => { results := [.lit (.bool false)], args := [d1, d2, d3, d4] }
  | _ => none }
def LocksHoldWrongFalsely : Prop := locksHoldRow.holds Try.pinned (OpenSpec.ofChange locksHoldWrong)

/-- 'hibernaclelaw09.LocksRows': WHATEVER THE INPUT: true; the input reads as it did. -/
def locksRowsSpec : ChangeSpec := { name := "locksRows", fn := fun _ => fun
  | [d] => { results := [.lit (.bool true)], args := [d] }
  | _ => none }
def locksRowsRow : OpenClaim := { program := "ytikelkfinjcgaaa", sum := "a752b49658948e73e8f2b675613af5ae9d09c6068b2c1152ad808973609eafb6", func := "hibernacle/hibernaclelaw09.LocksRows", spec := "locksRows", unfollowed := true, recurses := true, apart := false }
def LocksRowsSaid : Prop := locksRowsRow.holds Try.pinned (OpenSpec.ofChange locksRowsSpec)

/-- ITS FALSE NEIGHBOUR: 'it returns false'. Refute it at one input. -/
def locksRowsWrong : ChangeSpec := { name := "locksRows", fn := fun _ => fun
  | [d] => { results := [.lit (.bool false)], args := [d] }
  | _ => none }
def LocksRowsWrongFalsely : Prop := locksRowsRow.holds Try.pinned (OpenSpec.ofChange locksRowsWrong)

/-- 'hibernaclelaw09.LocksCounts': WHATEVER THE INPUT: true; the input reads as it did. -/
def locksCountsSpec : ChangeSpec := { name := "locksCounts", fn := fun _ => fun
  | [d1, d2] => { results := [.lit (.bool true)], args := [d1, d2] }
  | _ => none }
def locksCountsRow : OpenClaim := { program := "ytikelkfinjcgaaa", sum := "a752b49658948e73e8f2b675613af5ae9d09c6068b2c1152ad808973609eafb6", func := "hibernacle/hibernaclelaw09.LocksCounts", spec := "locksCounts", unfollowed := true, recurses := true, apart := false }
def LocksCountsSaid : Prop := locksCountsRow.holds Try.pinned (OpenSpec.ofChange locksCountsSpec)

/-- ITS FALSE NEIGHBOUR: 'it returns false'. Refute it at one input. -/
def locksCountsWrong : ChangeSpec := { name := "locksCounts", fn := fun _ => fun
  | [d1, d2] => { results := [.lit (.bool false)], args := [d1, d2] }
  | _ => none }
def LocksCountsWrongFalsely : Prop := locksCountsRow.holds Try.pinned (OpenSpec.ofChange locksCountsWrong)

/-- 'hibernaclelaw09.LocksConds': WHATEVER THE INPUT: true; the input reads as it did. -/
def locksCondsSpec : ChangeSpec := { name := "locksConds", fn := fun _ => fun
  | [d1, d2] => { results := [.lit (.bool true)], args := [d1, d2] }
  | _ => none }
def locksCondsRow : OpenClaim := { program := "ytikelkfinjcgaaa", sum := "a752b49658948e73e8f2b675613af5ae9d09c6068b2c1152ad808973609eafb6", func := "hibernacle/hibernaclelaw09.LocksConds", spec := "locksConds", unfollowed := true, recurses := true, apart := false }
def LocksCondsSaid : Prop := locksCondsRow.holds Try.pinned (OpenSpec.ofChange locksCondsSpec)

/-- ITS FALSE NEIGHBOUR: 'it returns false'. Refute it at one input. -/
def locksCondsWrong : ChangeSpec := { name := "locksConds", fn := fun _ => fun
  | [d1, d2] => { results := [.lit (.bool false)], args := [d1, d2] }
  | _ => none }
def LocksCondsWrongFalsely : Prop := locksCondsRow.holds Try.pinned (OpenSpec.ofChange locksCondsWrong)

/- THE SECOND FORM. 'bulk': how many values and letters a reading holds, each counted each time it is reached (what is shared counts as often as it is met; a slice's spare places count too). A statement '..UptoSaid' is the law's where the arguments, and the package variables that the reading takes, are together of bulk at most 1048576: NARROWER than '..Said'. Prove '..Said' where nothing that the law and all that it calls make is longer than what came in: it says more and counts as full. Else prove '..UptoSaid'. A law counts once. -/
mutual
def uptoBulk {H : Type} : DataW H → Nat
  | .lit (.string bytes) => bytes.length + 1
  | .lit _ => 1
  | .nil => 1
  | .ptr d => uptoBulk d + 1
  | .slice elems spare => uptoBulkAll elems + uptoBulkAll spare + 1
  | .agg parts => uptoBulkAll parts + 1
  | .iface _ d => uptoBulk d + 1
  | .map entries => uptoBulkEntries entries + 1
  | .held _ => 1
def uptoBulkAll {H : Type} : List (DataW H) → Nat
  | [] => 0
  | d :: r => uptoBulk d + uptoBulkAll r
def uptoBulkEntries {H : Type} : List (Lit × DataW H) → Nat
  | [] => 0
  | x :: r => uptoBulkEntry x + uptoBulkEntries r
def uptoBulkEntry {H : Type} : Lit × DataW H → Nat
  | (.string bytes, d) => bytes.length + uptoBulk d + 1
  | (_, d) => uptoBulk d + 1
 end
def uptoSmall : (H : Type) → List (DataW H) → Bool := fun _ ds => decide (uptoBulkAll ds ≤ 1048576)
def OpenSpec.upto (s : _root_.Go.ChangeSpec) : _root_.Go.OpenSpec := { _root_.Go.OpenSpec.ofChange s with cond := some uptoSmall }

/-- 'hibernaclelaw09.LocksPlay', WHERE WHAT IT READS IS OF BULK AT MOST 1048576: true; the input reads as it did. -/
def locksPlayUptoRow : OpenClaim := { program := "ytikelkfinjcgaaa", sum := "a752b49658948e73e8f2b675613af5ae9d09c6068b2c1152ad808973609eafb6", func := "hibernacle/hibernaclelaw09.LocksPlay", spec := "locksPlay", unfollowed := true, recurses := true, apart := false, narrowed := true }
def LocksPlayUptoSaid : Prop := locksPlayUptoRow.holds Try.pinned (OpenSpec.upto locksPlaySpec)

/-- 'hibernaclelaw09.LocksHold', WHERE WHAT IT READS IS OF BULK AT MOST 1048576: true; the input reads as it did. -/
def locksHoldUptoRow : OpenClaim := { program := "ytikelkfinjcgaaa", sum := "a752b49658948e73e8f2b675613af5ae9d09c6068b2c1152ad808973609eafb6", func := "hibernacle/hibernaclelaw09.LocksHold", spec := "locksHold", unfollowed := true, recurses := true, apart := false, narrowed := true }
def LocksHoldUptoSaid : Prop := locksHoldUptoRow.holds Try.pinned (OpenSpec.upto locksHoldSpec)

/-- 'hibernaclelaw09.LocksRows', WHERE WHAT IT READS IS OF BULK AT MOST 1048576: true; the input reads as it did. -/
def locksRowsUptoRow : OpenClaim := { program := "ytikelkfinjcgaaa", sum := "a752b49658948e73e8f2b675613af5ae9d09c6068b2c1152ad808973609eafb6", func := "hibernacle/hibernaclelaw09.LocksRows", spec := "locksRows", unfollowed := true, recurses := true, apart := false, narrowed := true }
def LocksRowsUptoSaid : Prop := locksRowsUptoRow.holds Try.pinned (OpenSpec.upto locksRowsSpec)

/-- 'hibernaclelaw09.LocksCounts', WHERE WHAT IT READS IS OF BULK AT MOST 1048576: true; the input reads as it did. -/
def locksCountsUptoRow : OpenClaim := { program := "ytikelkfinjcgaaa", sum := "a752b49658948e73e8f2b675613af5ae9d09c6068b2c1152ad808973609eafb6", func := "hibernacle/hibernaclelaw09.LocksCounts", spec := "locksCounts", unfollowed := true, recurses := true, apart := false, narrowed := true }
def LocksCountsUptoSaid : Prop := locksCountsUptoRow.holds Try.pinned (OpenSpec.upto locksCountsSpec)

/-- 'hibernaclelaw09.LocksConds', WHERE WHAT IT READS IS OF BULK AT MOST 1048576: true; the input reads as it did. -/
def locksCondsUptoRow : OpenClaim := { program := "ytikelkfinjcgaaa", sum := "a752b49658948e73e8f2b675613af5ae9d09c6068b2c1152ad808973609eafb6", func := "hibernacle/hibernaclelaw09.LocksConds", spec := "locksConds", unfollowed := true, recurses := true, apart := false, narrowed := true }
def LocksCondsUptoSaid : Prop := locksCondsUptoRow.holds Try.pinned (OpenSpec.upto locksCondsSpec)

end Rows
end Go.Proofs.Ytikelkfinjcgaaa
