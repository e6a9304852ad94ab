
/-
  The document's ring: Push, Pop, Cut.
-/
import Derived.Test.YtipflplilkecjaaRgOwn
import Derived.Deep.AppendLies
import Derived.Deep.RegionLaw
import Derived.WalkLawsBesides
set_option linter.unusedVariables false
set_option linter.unusedSimpArgs false
namespace Go.Proofs.Ytipflplilkecjaa
open Go.RowKit Plain

/-- A row of numbers that stands in blocks of D. -/
def RX (w : World) (D : Nat → Prop) (A : Option Addr) (c : Nat) (L : List Int) : Prop :=
  L.length ≤ c ∧ (0 < L.length → ∃ ad, A = some ad ∧ D ad.block ∧ ad.block < w.heap.size ∧ ∀ j x, L[j]? = some x → w.cell? (ad.add j) = some (.int .i64 x))
section
variable {w w' : World} {D E S : Nat → Prop} {A : Option Addr} {c : Nat} {L : List Int}
theorem RX.fr (h : RX w D A c L) (hf : Fr S w w') (hS : ∀ i, D i → i < w.heap.size → ¬ S i) : RX w' D A c L :=
  ⟨h.1, fun hn => by
    obtain ⟨ad, e, hd, hb, hc⟩ := h.2 hn
    exact ⟨ad, e, hd, Nat.lt_of_lt_of_le hb hf.size, fun j x hj => (hf.cell (p := ad.add j) (by rw [block_of_add]; exact hb) (by rw [block_of_add]; exact hS _ hd hb)).trans (hc j x hj)⟩⟩
theorem RX.mono (h : RX w D A c L) (hm : ∀ i, D i → i < w.heap.size → E i) : RX w E A c L :=
  ⟨h.1, fun hn => by
    obtain ⟨ad, e, hd, hb, hc⟩ := h.2 hn
    exact ⟨ad, e, hm _ hd hb, hb, hc⟩⟩
theorem RX.below {B : Nat} (h : RX w D A c L) (hb : Below B w w') (hB : w.heap.size ≤ B) : RX w' D A c L := h.fr (Fr.of_below hb) (fun i _ hi h => by omega)
theorem RX.alloc (h : RX w D A c L) (o : Obj) : RX (w.alloc o) D A c L := h.fr ((Fr.refl (fun _ => False) w).alloc o) (fun _ _ _ h => h)
theorem RX.reads (h : RX w D A c L) : Reads w w.heap.size 1 A L.length (L.map EnI) :=
  ⟨by simp, fun hn => by
    obtain ⟨ad, e, hd, hb, hc⟩ := h.2 hn
    refine ⟨ad, e, hb, fun j u hj => ?_⟩
    have hjl : j < L.length := by
      have := (List.getElem?_eq_some_iff.1 hj).1
      simpa using this
    have hx : L[j]? = some L[j] := List.getElem?_eq_getElem hjl
    rw [hc j _ hx]
    simp [hx] at hj
    rw [← hj]⟩
theorem RX.of_own {base : Nat} (h : OwnI w base (.slice A L.length c) L) : RX w (fun i => base ≤ i) A c L := by
  obtain ⟨A', c', e, hc, hr⟩ := h.slice
  injection e with e1 e2 e3
  subst e1 e3
  refine ⟨hc, fun hn => ?_⟩
  obtain ⟨ad, e, hb, hcell⟩ := hr.2 hn
  subst e
  exact ⟨ad, rfl, (h.lt ad.block rfl).1, hb, fun j x hj => hcell j _ (by simp [hj])⟩
theorem RX.of_own_n {base n : Nat} (hn : L.length = n) (h : OwnI w base (.slice A n c) L) : RX w (fun i => base ≤ i) A c L := by
  subst hn
  exact RX.of_own h
theorem RX.tail {y : Int} {r : List Int} (h : RX w D A c (y :: r)) : RX w D (if c = 1 then A else A.map (·.add 1)) (c - 1) r := by
  have h1 := h.1
  simp at h1
  refine ⟨by omega, fun hn => ?_⟩
  obtain ⟨ad, e, hd, hb, hc⟩ := h.2 (by simp)
  subst e
  rw [if_neg (by omega)]
  refine ⟨ad.add 1, rfl, by rw [block_of_add]; exact hd, by rw [block_of_add]; exact hb, fun j x hj => ?_⟩
  rw [add_of_add, Nat.add_comm]
  exact hc (j + 1) x (by simpa using hj)
end

section
variable {P : Program}
/-- Results: a variable that lies in memory, and one in a slot; and two. -/
theorem res_cell_slot {fn : Func} {p q : Tmp} {ty : TypeId} (h : fn.results = #[.cell p ty, .tmp q]) (tmps : Array Value) (w : World) (g : Nat) (t : TypeId) (cs : Array Value) (fr : Nat × Nat) (d : TypeDesc) (u : Value)
    (hp : tmps.getD p undef = .pointer (some ⟨g, 0, none⟩)) (hq : tmps.getD q undef = u) (hg : w.heap[g]? = some (.cells cs t fr))
    (hu : P.underlying ty = some d) (hd : (match d with | .struct _ | .array _ _ => true | _ => false) = true) (hi : (P.info? ty).map (·.size) = some cs.size) :
    (results fn tmps).run P w = .ok (.tuple #[.agg cs, u]) w := by
  have hp' : tmps[p]?.getD undef = .pointer (some ⟨g, 0, none⟩) := by simpa using hp
  have hq' : tmps[q]?.getD undef = u := by simpa using hq
  simp [results, h, hp', hq', asAddr, run_loadVar_row w g t ty cs fr d hg hu hd hi]
theorem res_cell_slots {fn : Func} {p q r : Tmp} {ty : TypeId} (h : fn.results = #[.cell p ty, .tmp q, .tmp r]) (tmps : Array Value) (w : World) (g : Nat) (t : TypeId) (cs : Array Value) (fr : Nat × Nat) (d : TypeDesc) (u v : Value)
    (hp : tmps.getD p undef = .pointer (some ⟨g, 0, none⟩)) (hq : tmps.getD q undef = u) (hr : tmps.getD r undef = v) (hg : w.heap[g]? = some (.cells cs t fr))
    (hu : P.underlying ty = some d) (hd : (match d with | .struct _ | .array _ _ => true | _ => false) = true) (hi : (P.info? ty).map (·.size) = some cs.size) :
    (results fn tmps).run P w = .ok (.tuple #[.agg cs, u, v]) w := by
  have hp' : tmps[p]?.getD undef = .pointer (some ⟨g, 0, none⟩) := by simpa using hp
  have hq' : tmps[q]?.getD undef = u := by simpa using hq
  have hr' : tmps[r]?.getD undef = v := by simpa using hr
  simp [results, h, hp', hq', hr', asAddr, run_loadVar_row w g t ty cs fr d hg hu hd hi]
end
section
variable (room : Nat) (A : Option Addr) (c : Nat) (L : List Int) (w : World)
end
end Go.Proofs.Ytipflplilkecjaa
