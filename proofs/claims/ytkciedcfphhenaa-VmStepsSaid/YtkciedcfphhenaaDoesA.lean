
/-
  The boxes of does.
-/
import Derived.Test.YtkciedcfphhenaaKeepC
import Derived.Test.YtkciedcfphhenaaSBox
set_option linter.unusedVariables false
set_option linter.unusedSimpArgs false
namespace Go.Proofs.Ytkciedcfphhenaa
open Go.RowKit Plain

section
variable {P : Program}
/-- Results: two variables that lie in memory, and one in a slot. -/
theorem results_cells2_slot {fn : Func} {p q s : Tmp} {ty : TypeId} (h : fn.results = #[.cell p ty, .cell q ty, .tmp s]) (tmps : Array Value) (w : World) (g1 g2 : Nat) (t : TypeId) (cs1 cs2 : Array Value) (fr1 fr2 : Nat × Nat) (d : TypeDesc) (u : Value)
    (hp : tmps.getD p undef = .pointer (some ⟨g1, 0, none⟩)) (hq : tmps.getD q undef = .pointer (some ⟨g2, 0, none⟩)) (hs : tmps.getD s undef = u) (hg1 : w.heap[g1]? = some (.cells cs1 t fr1)) (hg2 : w.heap[g2]? = some (.cells cs2 t fr2))
    (hu : P.underlying ty = some d) (hd : (match d with | .struct _ | .array _ _ => true | _ => false) = true) (hi1 : (P.info? ty).map (·.size) = some cs1.size) (hi2 : (P.info? ty).map (·.size) = some cs2.size) :
    (results fn tmps).run P w = .ok (.tuple #[.agg cs1, .agg cs2, u]) w := by
  have hp' : tmps[p]?.getD undef = .pointer (some ⟨g1, 0, none⟩) := by simpa using hp
  have hq' : tmps[q]?.getD undef = .pointer (some ⟨g2, 0, none⟩) := by simpa using hq
  have hs' : tmps[s]?.getD undef = u := by simpa using hs
  simp [results, h, hp', hq', hs', asAddr, run_loadVar_row w g1 t ty cs1 fr1 d hg1 hu hd hi1, run_loadVar_row w g2 t ty cs2 fr2 d hg2 hu hd hi2]
end
/-- A thread in a box, its rows in the blocks of D. -/
structure TD (W : World) (D : Nat → Prop) (xb : Nat) (ht : TH) (t : TV) : Prop where
  tb : Blk W xb 29 #[.int .i64 t.state, .int .i64 t.on, .slice ht.fA t.frames.length ht.fc, .slice ht.sA t.stack.length ht.sc, .int .i64 t.code]
  rt : RT W D ht t
theorem TD.below {W W' : World} {D : Nat → Prop} {xb : Nat} {ht : TH} {t : TV} (s : TD W D xb ht t) (hb : Below W.heap.size W W') : TD W' D xb ht t := ⟨s.tb.below hb s.tb.lt, s.rt.below hb⟩
theorem TD.mono {W : World} {D E : Nat → Prop} {xb : Nat} {ht : TH} {t : TV} (s : TD W D xb ht t) (hm : ∀ i, D i → i < W.heap.size → E i) : TD W E xb ht t := ⟨s.tb, s.rt.mono hm⟩
theorem TD.new {w1 : World} {D : Nat → Prop} {ht : TH} {t : TV} (hr : RT w1 D ht t) : TD (w1.alloc (.cells #[.int .i64 t.state, .int .i64 t.on, .slice ht.fA t.frames.length ht.fc, .slice ht.sA t.stack.length ht.sc, .int .i64 t.code] 29)) D w1.heap.size ht t :=
  ⟨Blk.new _ _ _, hr.alloc _⟩
section
variable {w W : World} {h : PH} {p : PV} {h1 h2 : TH} {t : TV} {kind v i : Int}
theorem Blk.raw {X : World} {g : Nat} {ty : TypeId} {cs : Array Value} (hb : Blk X g ty cs) : X.heap[g]? = some (.cells cs ty (0, 0)) := hb
theorem Blk.far5 {X : World} {g g' : Nat} {ty : TypeId} {cs : Array Value} (hb : Blk X g ty cs) (hne : g ≠ g') (u0 u1 u2 u3 u4 : Value) : Blk (((((X.setCell ⟨g', 0, none⟩ (u0)).setCell ⟨g', 1, none⟩ (u1)).setCell ⟨g', 2, none⟩ (u2)).setCell ⟨g', 3, none⟩ (u3)).setCell ⟨g', 4, none⟩ (u4)) g ty cs :=
  ((((hb.far (by simpa using hne) _).far (by simpa using hne) _).far (by simpa using hne) _).far (by simpa using hne) _).far (by simpa using hne) _
end
end Go.Proofs.Ytkciedcfphhenaa
