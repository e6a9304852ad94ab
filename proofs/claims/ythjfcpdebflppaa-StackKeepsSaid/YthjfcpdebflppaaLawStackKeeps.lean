/-
  Proved here: StackKeeps returns true for every program, every thread and any two deeds: what is done to a thread leaves the one that was handed in as it was, and what was made of it ahead, too.
-/
import Derived.Test.YthjfcpdebflppaaRows
import Derived.WalkKit
import Derived.ProofKit
import Derived.OpenShut
import Derived.ShutString
import Derived.ChangeOld
import Derived.Below
import Derived.Test.YthjfcpdebflppaaDoesC
import Derived.Test.YthjfcpdebflppaaSBox
import Derived.Test.YthjfcpdebflppaaPrOpen
import Derived.Test.YthjfcpdebflppaaThrOpen
import Derived.Test.YthjfcpdebflppaaDeedOpen
import Derived.Test.YthjfcpdebflppaaLawStackKeepsW
import Derived.Test.YthjfcpdebflppaaFacts
namespace Go.Proofs.Ythjfcpdebflppaa.stackKeeps
open Go.ChangeShapes Go.WideShapes Go.ChangeAt Go.RowKit Go.Proofs.Ythjfcpdebflppaa Go.Proofs.Ythjfcpdebflppaa.Plain
open Go.ChangeMaps (open_string shut_string)
set_option linter.unusedVariables false

theorem own : ownKnob Try.prog.godebug = none := by kernel_rfl
theorem laidOut : laidOutB Try.prog = true := by kernel_rfl
set_option maxRecDepth 100000 in
theorem lifted (os : Os) (started : os.Started) (H : Type) (enc : TypeId × Value → H) :
    ReturnsInHanded {} Try.checked os 8 .any (Rows.stackKeepsSpec.pre6 enc Try.prog Try.f8 Rows.stackKeepsRow.domain false) (Rows.stackKeepsSpec.post enc Try.prog Try.f8 false true false false) := by
  refine returnsInHanded_of_change (C := Try.checked) own started (by kernel_rfl) Try.func8
    (ChangeSpec.witness6 (enc := enc) (C := Try.checked) false ⟨#[], #[.agg #[.slice none 0 0, .int .i64 0, .slice none 0 0, .slice none 0 0, .slice none 0 0, .slice none 0 0, .int .i64 0], .agg #[.int .i64 0, .int .i64 0, .slice none 0 0, .slice none 0 0, .int .i64 0], .agg #[.int .i64 0, .int .i64 0, .int .i64 0], .agg #[.int .i64 0, .int .i64 0, .int .i64 0]], []⟩ 8 (by kernel_rfl) (by kernel_rfl) (by kernel_rfl) (by kernel_rfl)) ?_
  intro W base args ds gs before hval0 hW hcnd _
  have hval : ∀ (j : Nat) t v, Try.f8.params[j]? = some t → args[j]? = some v → Value.okWide Try.prog W .any base t v := hval0
  have hW' := hW
  obtain ⟨p, q, hA0, hV, rfl, hfz, hnd⟩ := hW
  have hA : DataW.TrodAll enc Try.prog W 0 (fun _ => true) true Try.f8.params.toList args.toList ds p := hA0
  rw [Try.params8] at hA hval
  obtain ⟨v0, vs0, d0, ds0, p0, q0, hargs, rfl, rfl, h0, r0⟩ := trodAll_cons hA
  obtain ⟨v1, vs1, d1, ds1, p1, q1, rfl, rfl, rfl, h1, r1⟩ := trodAll_cons r0
  obtain ⟨v2, vs2, d2, ds2, p2, q2, rfl, rfl, rfl, h2, r2⟩ := trodAll_cons r1
  obtain ⟨v3, vs3, d3, ds3, p3, q3, rfl, rfl, rfl, h3, r3⟩ := trodAll_cons r2
  obtain ⟨rfl, rfl, rfl⟩ := trodAll_nil r3
  obtain rfl : args = #[v0, v1, v2, v3] := by cases args; simp_all
  obtain ⟨rfl, rfl⟩ := trodVars_none hV
  have k0 := h0
  have lt0 : ∀ x ∈ p0, x.block < W.heap.size := by obtain ⟨m, hm⟩ := k0; exact DataW.trod_lt m _ _ _ hm
  obtain ⟨hd0, q0, ecs0, w0⟩ := prog_open (hval 0 26 v0 rfl rfl) h0
  subst ecs0
  have k1 := h1
  have lt1 : ∀ x ∈ p1, x.block < W.heap.size := by obtain ⟨m, hm⟩ := k1; exact DataW.trod_lt m _ _ _ hm
  obtain ⟨ht1, t1, ecs1, w1⟩ := thread_open (hval 1 51 v1 rfl rfl) h1
  subst ecs1
  have k2 := h2
  have lt2 : ∀ x ∈ p2, x.block < W.heap.size := by obtain ⟨m, hm⟩ := k2; exact DataW.trod_lt m _ _ _ hm
  obtain ⟨x2, y2, z2, ecs2, w2⟩ := deed_open (hval 2 53 v2 rfl rfl) h2
  subst ecs2
  have k3 := h3
  have lt3 : ∀ x ∈ p3, x.block < W.heap.size := by obtain ⟨m, hm⟩ := k3; exact DataW.trod_lt m _ _ _ hm
  obtain ⟨x3, y3, z3, ecs3, w3⟩ := deed_open (hval 3 53 v3 rfl rfl) h3
  subst ecs3
  clear hA0 hval0
  refine (walk hd0 q0 ht1 t1 x2 y2 z2 x3 y3 z3 W w0 w1 w2 w3).mono fun e W' ⟨he, bel⟩ => ?_
  subst he
  exact ⟨_, rfl, _, _, _, [], _, [], hW', trodAll_mk1 (shut_bool Try.underlying4 _), (trodAll_cons_mk (Below.trod laidOut (by kernel_rfl) (of_decide_eq_true (by kernel_rfl)) k0 bel lt0) (trodAll_cons_mk (Below.trod laidOut (by kernel_rfl) (of_decide_eq_true (by kernel_rfl)) k1 bel lt1) (trodAll_cons_mk (Below.trod laidOut (by kernel_rfl) (of_decide_eq_true (by kernel_rfl)) k2 bel lt2) (trodAll_cons_mk (Below.trod laidOut (by kernel_rfl) (of_decide_eq_true (by kernel_rfl)) k3 bel lt3) trodAll_mk0)))), rfl, bel.frame _, fun h => by cases h⟩

theorem j_inp : (Rows.stackKeepsRow.inPlace == Try.prog.inPlace 8) = true := by kernel_rfl
theorem j_unf : (Rows.stackKeepsRow.unfollowed == Try.prog.unfollowed 8) = true := by kernel_rfl
theorem j_rec : (Rows.stackKeepsRow.recurses == Try.prog.recurses 8) = true := by kernel_rfl
theorem j_nam : (Rows.stackKeepsRow.named == Try.prog.varsNamed 8) = true := by kernel_rfl
theorem joined : joinedFacts Try.prog 8 Try.f8 Rows.stackKeepsSpec Rows.stackKeepsRow = true := by
  unfold joinedFacts
  simp only [f_laid, f_maps, f_enter, f_make, f_lifts, f_heard, j_inp, j_unf, j_rec, j_nam, Bool.and_true]
  kernel_rfl
theorem over : Rows.stackKeepsRow.holds Try.pinned (OpenSpec.ofChange Rows.stackKeepsSpec) :=
  OpenClaim.holds_of_wide 8 Try.f8 rfl rfl rfl rfl rfl rfl rfl ⟨rfl, rfl, rfl, rfl, rfl⟩ rfl rfl rfl rfl rfl (by kernel_rfl) Try.func8 joined
    (of_decide_eq_true (by kernel_rfl)) (by unfold Func.isWrapper; first | (rw [if_pos (by decide +kernel)]; kernel_rfl) | (rw [if_neg (by decide +kernel)]; exact ⟨rfl, rfl⟩))
    (fun os started H enc _ => lifted os started H enc)

theorem proved : Rows.StackKeepsSaid := over
#print axioms proved
end Go.Proofs.Ythjfcpdebflppaa.stackKeeps
