
/-
  A region that draws its order, within a round of a range over a function: what a region outside of one may be shown by, serves there too. No function of the landed code is spoken of here.
-/
import Derived.Test.YtgongcbbbhdjeaaFrR
import Derived.OrdersHeld
import Derived.Deep.RegionHeld3
import Derived.OrdersIn
set_option linter.unusedVariables false
set_option linter.unusedSimpArgs false
namespace Go.Proofs.Ytgongcbbbhdjeaa
open Go.RowKit Go.Shelf Plain

def notDeferF : Op → Bool
  | .defer _ => false
  | _ => true
theorem not_deferF {ops : Array Oper} (h : (ops.toList.all fun o => notDeferF o.op) = true) (i : Nat) (o : Oper) (hi : ops[i]? = some o) (c : Call) : o.op ≠ .defer c := fun e => by
  have := List.all_eq_true.1 h o (List.mem_of_getElem? (by simpa using hi))
  rw [e] at this
  cases this
/-- Only the usual way out. -/
def OnlyOnF (Q : Exit → Act → World → Prop) (e : Exit) (a : Act) (w : World) : Prop := e = .normal ∧ Q .normal a w
theorem OnlyOnF.not_out {Q : Exit → Act → World → Prop} : ¬ LetsOut (OnlyOnF Q) := fun h => by
  obtain ⟨a, w, h, _⟩ := h
  cases h
section
variable {P : Program} {ops : Array Oper} {Q : Exit → Act → World → Prop} {l n : Nat}
theorem oper_roundF {o : Oper} {a : Act} {w : World} {K : Act → World → Prop} (hd : ∀ c, o.op ≠ .defer c) (h : o.wp P a w K (OnlyOnF Q)) : o.wpIn (Fence.wide.inRound l) n P a w K (OnlyOnF Q) := by
  refine ⟨fun _ _ => trivial, ?_⟩
  show o.uponIn (Fence.wide.inRound l) n P a K (OnlyOnF Q) ((o.semAt (some l) a.eval).run P w)
  rw [Oper.semAt_some l a.eval o hd]
  unfold Oper.wp at h
  generalize (execOp a.eval o).run P w = r at h ⊢
  cases r with
  | ok x w' =>
    cases x with
    | value v => exact h
    | skip => exact h
    | defer d => exact h
    | enter f args => exact ⟨fun e => absurd e (by simp [Fence.inRound, Fence.wide]), CallsIn.inRound l (callsIn_wide.2 h)⟩
    | row r args =>
      refine ⟨fun e => absurd e (by simp [Fence.inRound, Fence.wide]), fun c cs _ => ?_⟩
      obtain ⟨v, w'', h1, h2⟩ := h c cs
      exact ⟨v, w'', h1, stepsIn_wide.2 h2⟩
    | _ => exact False.elim h
  | halt x w' => cases x <;> exact h
theorem anyIn_roundF (hd : ∀ (i : Nat) (o : Oper), ops[i]? = some o → ∀ c, o.op ≠ .defer c) : ∀ (fuel : Nat) (L : Array Bool) (a : Act) (w : World), wpAny P .any ops (OnlyOnF Q) fuel L a w → wpAnyIn (Fence.wide.inRound l) n P .any ops (OnlyOnF Q) fuel L a w := by
  intro fuel
  induction fuel with
  | zero => exact fun L a w h => h
  | succ fuel ih =>
    intro L a w h
    refine ⟨h.1, fun i hi => ?_⟩
    have h2 := h.2 i hi
    unfold wpOp at h2
    unfold wpOpIn
    cases ho : ops[i]? with
    | none =>
      rw [ho] at h2
      exact ih _ _ _ h2
    | some o =>
      rw [ho] at h2
      simp only at h2 ⊢
      split
      · rename_i hw
        rw [if_pos hw] at h2
        rcases h2 with h2 | ⟨_, h2⟩
        · exact Oper.wpIn_mono (fun a w h => ih _ a w h) (oper_roundF (hd i o ho) h2)
        · exact (OnlyOnF.not_out h2).elim
      · rename_i hw
        rw [if_neg hw] at h2
        exact ⟨fun _ _ => trivial, ih _ _ _ h2⟩
/-- The beginning of a region within a round. -/
theorem held_roundF {id : Nat} {a : Act} {w : World} {S : World → Prop} (hm : P.follows .mixedOrders = true) (hd : (ops.toList.all fun o => notDeferF o.op) = true) (hS : S w.drew)
    (h : S w.drew → wpAnyH P .any ops (OnlyOnF Q) S ops.size (Array.replicate ops.size false) a w.drew) : (Code.region id ops true).wpIn (Fence.wide.inRound l) n P Q a w := by
  refine wpIn_mono (wpIn_region_any hm (anyIn_roundF (not_deferF hd) _ _ _ _ (wpAny_of_held _ _ _ _ (h hS)))) ?_
  rintro e a w ⟨rfl, h⟩
  exact h
end
end Go.Proofs.Ytgongcbbbhdjeaa
