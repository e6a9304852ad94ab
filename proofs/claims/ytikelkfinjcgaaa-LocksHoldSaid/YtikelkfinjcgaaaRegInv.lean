
/-
  A region that draws its order, by an invariant: each operation, as it comes up, keeps it. So a region with many operations that make memory takes one step for each operation, not one for each order. No function of the landed code is spoken of here.
-/
import Derived.Test.YtikelkfinjcgaaaWords
import Derived.Orders
set_option linter.unusedVariables false
set_option linter.unusedSimpArgs false
namespace Go.Proofs.Ytikelkfinjcgaaa
open Go.RowKit

/-- Each operation waits for such alone as stand ahead of it. -/
def Ahead (ops : Array Oper) : Bool := (List.range ops.size).all fun i => ((ops[i]?).map fun o => o.after.all fun e => decide (e.on < i)).getD true
section
variable {P : Program} {ops : Array Oper} {Q : Exit → Act → World → Prop}
theorem ahead_of (h : Ahead ops = true) {i : Nat} {o : Oper} (hi : ops[i]? = some o) : ∀ e ∈ o.after, e.on < i := by
  intro e he
  have hlt : i < ops.size := (Array.getElem?_eq_some_iff.1 hi).1
  unfold Ahead at h
  have := List.all_eq_true.1 h i (List.mem_range.2 hlt)
  rw [hi] at this
  simp only [Option.map_some, Option.getD_some] at this
  exact of_decide_eq_true (Array.all_eq_true_iff_forall_mem.1 this e he)
theorem ready_some (h : Ahead ops = true) {L : Array Bool} (hL : L.size = ops.size) (hr : Region.ready .any ops L = []) : ∀ n i, i ≤ n → i < ops.size → L.getD i true = true := by
  intro n
  induction n with
  | zero =>
    intro i hi hlt
    obtain rfl : i = 0 := by omega
    rcases hb : L.getD 0 true with _ | _
    · have : 0 ∈ Region.ready .any ops L := by
        rw [mem_ready]
        exact ⟨hb, _, Array.getElem?_eq_getElem hlt, fun e he _ => absurd (ahead_of h (Array.getElem?_eq_getElem hlt) e he) (by omega)⟩
      rw [hr] at this
      cases this
    · rfl
  | succ n ih =>
    intro i hi hlt
    rcases hb : L.getD i true with _ | _
    · have : i ∈ Region.ready .any ops L := by
        rw [mem_ready]
        refine ⟨hb, _, Array.getElem?_eq_getElem hlt, fun e he _ => ?_⟩
        have hlt2 := ahead_of h (Array.getElem?_eq_getElem hlt) e he
        have h1 := ih e.on (by omega) (by omega)
        have hsz : e.on < L.size := by omega
        simp only [Array.getD_eq_getD_getElem?, Array.getElem?_eq_getElem hsz, Option.getD_some] at h1 ⊢
        exact h1
      rw [hr] at this
      cases this
    · rfl
/-- How many are not listed yet. -/
def unlisted (L : Array Bool) : Nat := (L.toList.filter (fun b => !b)).length
theorem unlisted_set {L : Array Bool} {i : Nat} (h : L.getD i true = false) : unlisted (L.setIfInBounds i true) + 1 = unlisted L := by
  have hlt : i < L.size := by
    rcases Nat.lt_or_ge i L.size with h' | h'
    · exact h'
    · simp [Array.getElem?_eq_none h'] at h
  have hv : L.toList[i]? = some false := by
    simp [hlt] at h
    simp [hlt, h]
  unfold unlisted
  have hs : (L.setIfInBounds i true).toList = L.toList.set i true := by simp
  rw [hs]
  generalize L.toList = l at hv
  clear h hlt hs
  induction l generalizing i with
  | nil => simp at hv
  | cons b l ih =>
    cases i with
    | zero =>
      simp at hv
      subst hv
      simp
    | succ i =>
      simp at hv
      have := ih hv
      cases b <;> simp <;> omega
theorem unlisted_zero {L : Array Bool} (h : unlisted L = 0) : ∀ i, L.getD i true = true := by
  intro i
  rcases hb : L.getD i true with _ | _
  · have := unlisted_set hb
    omega
  · rfl
theorem ready_nil {L : Array Bool} (h : ∀ i, L.getD i true = true) : Region.ready .any ops L = [] := by
  apply List.eq_nil_iff_forall_not_mem.2
  intro i hi
  rw [mem_ready] at hi
  rw [h i] at hi
  exact Bool.noConfusion hi.1
/-- What is listed has all listed that it waits for. -/
def Closed (ops : Array Oper) (L : Array Bool) : Prop := ∀ j o, ops[j]? = some o → L.getD j false = true → ∀ e ∈ o.after, Region.binds .any e = true → L.getD e.on false = true
theorem Closed.put {L : Array Bool} (h : Closed ops L) {i : Nat} {o : Oper} (hi : ops[i]? = some o) (ha : ∀ e ∈ o.after, Region.binds .any e = true → L.getD e.on false = true) : Closed ops (L.setIfInBounds i true) := by
  intro j o' hj hL e he hb
  by_cases hij : i = j
  · subst hij
    rw [hi] at hj
    injection hj with hj
    subst hj
    exact getD_set_true (ha e he hb)
  · rw [getD_set_ne false hij] at hL
    exact getD_set_true (h j o' hj hL e he hb)
theorem wpAny_inv (I : Array Bool → Act → World → Prop) (ha : Ahead ops = true)
    (hs : ∀ L a w, L.size = ops.size → Closed ops L → I L a w → ∀ i o, ops[i]? = some o → L.getD i true = false → (∀ e ∈ o.after, Region.binds .any e = true → L.getD e.on false = true) → wpOp P ops Q i (I (L.setIfInBounds i true)) a w)
    (hd : ∀ L a w, L.size = ops.size → I L a w → (∀ i, i < ops.size → L.getD i true = true) → Q .normal a w) :
    ∀ fuel L a w, L.size = ops.size → Closed ops L → unlisted L ≤ fuel → I L a w → wpAny P .any ops Q fuel L a w := by
  intro fuel
  induction fuel with
  | zero =>
    intro L a w hL hcl hu hI
    have h0 := unlisted_zero (L := L) (by omega)
    exact ⟨ready_nil h0, hd L a w hL hI (fun i _ => h0 i)⟩
  | succ fuel ih =>
    intro L a w hL hcl hu hI
    refine ⟨fun hr => hd L a w hL hI (fun i hi => ready_some ha hL hr i i (Nat.le_refl _) hi), fun i hi => ?_⟩
    rw [mem_ready] at hi
    obtain ⟨h1, o, h2, h3⟩ := hi
    refine wpOp_mono (fun a' w' h => ih _ a' w' (by simpa using hL) (hcl.put h2 h3) ?_ h) (hs L a w hL hcl hI i o h2 h1 h3)
    have := unlisted_set h1
    omega
theorem wp_region_inv {id : Nat} {a : Act} {w : World} (hm : P.follows .mixedOrders = true) (I : Array Bool → Act → World → Prop) (ha : Ahead ops = true)
    (h0 : I (Array.replicate ops.size false) a { w with drawn := w.drawn + 1 })
    (hs : ∀ L a w, L.size = ops.size → Closed ops L → I L a w → ∀ i o, ops[i]? = some o → L.getD i true = false → (∀ e ∈ o.after, Region.binds .any e = true → L.getD e.on false = true) → wpOp P ops Q i (I (L.setIfInBounds i true)) a w)
    (hd : ∀ L a w, L.size = ops.size → I L a w → (∀ i, i < ops.size → L.getD i true = true) → Q .normal a w) : (Code.region id ops true).wp P Q a w := by
  refine wp_region_any hm (wpAny_inv I ha hs hd _ _ _ _ (by simp) (fun j o hj hL => by simp [Array.getElem?_replicate] at hL; split at hL <;> simp at hL) ?_ h0)
  unfold unlisted
  refine Nat.le_trans (List.length_filter_le _ _) ?_
  simp
/-- One operation without a guard. -/
theorem wpOp_of {i : Nat} {o : Oper} {a : Act} {w : World} {K : Act → World → Prop} (hi : ops[i]? = some o) (hg : o.guard = none) (h : o.wp P a w K Q) : wpOp P ops Q i K a w := by
  have hw : Region.wanted o (yielded ops a.tmps) = true := by simp [Region.wanted, hg]
  unfold wpOp
  rw [hi]
  simp only [hw, if_true]
  exact .inl h
theorem wp_move_of {o : Oper} {a : Act} {w : World} {K : Act → World → Prop} (x : Operand) (ho : o.op = .move x) (h : K (a.put o.dst (a.eval x)) w) : o.wp P a w K Q := by
  unfold Oper.wp execOp
  simp [ho, Result.andThen]
  exact h
end
end Go.Proofs.Ytikelkfinjcgaaa
