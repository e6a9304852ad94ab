
/-
  Maps keyed by numbers, with any values, by the list of what was put in: what is put in, and what is found.
-/
import Derived.Test.YtkciedcfphhenaaWords
import Derived.Maps.OwnSet
set_option linter.unusedVariables false
set_option linter.unusedSimpArgs false
namespace Go.Proofs.Ytkciedcfphhenaa
open Go.RowKit

def ents : Nat → List (Int × Value) → List MapEntry
  | _, [] => []
  | n, (k, v) :: r => { key := .int .i64 k, val := v, born := n } :: ents (n + 1) r
theorem ents_snoc (k : Int) (v : Value) : ∀ (l : List (Int × Value)) (n : Nat), ents n (l ++ [(k, v)]) = ents n l ++ [{ key := .int .i64 k, val := v, born := n + l.length }]
  | [], n => rfl
  | (k', v') :: r, n => by simp [ents, ents_snoc k v r (n + 1)]; omega
theorem findNow_none (k : Int) : ∀ (l : List (Int × Value)) (n i : Nat), (∀ p ∈ l, p.1 ≠ k) → Instr.findNow (.int .i64) (.int .i64 k) (ents n l) i = some none
  | [], n, i, _ => rfl
  | (k', v') :: r, n, i, h => by
    have h1 : k' ≠ k := h (k', v') (by simp)
    have h2 := findNow_none k r (n + 1) (i + 1) (fun p hp => h p (by simp [hp]))
    have h3 : (k == k') = false := by rw [beq_eq_false_iff_ne]; exact fun e => h1 e.symm
    simp [ents, Instr.findNow, Instr.sameNow, h3, h2]
theorem findNow_some (k : Int) (v : Value) : ∀ (l : List (Int × Value)) (n i : Nat), (l.find? fun p => p.1 == k) = some (k, v) → ∃ m, Instr.findNow (.int .i64) (.int .i64 k) (ents n l) i = some (some (m, v))
  | [], n, i, h => by simp at h
  | (k', v') :: r, n, i, h => by
    rw [List.find?_cons] at h
    by_cases e : k' = k
    · subst e
      simp at h
      subst h
      exact ⟨i, by simp [ents, Instr.findNow, Instr.sameNow]⟩
    · have e2 : (k == k') = false := by rw [beq_eq_false_iff_ne]; exact fun x => e x.symm
      have e3 : (k' == k) = false := by rw [beq_eq_false_iff_ne]; exact e
      simp only [e3] at h
      obtain ⟨m, hm⟩ := findNow_some k v r (n + 1) (i + 1) h
      exact ⟨m, by simp [ents, Instr.findNow, Instr.sameNow, e2, hm]⟩
/-- Block b is a map that holds l. -/
def IsM (w : World) (b : Nat) (l : List (Int × Value)) : Prop := w.heap[b]? = some (.map (ents 0 l).toArray l.length)
section
variable {P : Program} {w : World} {b : Nat} {l : List (Int × Value)} {mt kt et : TypeId}
theorem IsM.lt (h : IsM w b l) : b < w.heap.size := by
  unfold IsM at h
  exact (Array.getElem?_eq_some_iff.1 h).1
theorem IsM.fr {S : Nat → Prop} {w' : World} (h : IsM w b l) (hf : Fr S w w') (hb : ¬ S b) : IsM w' b l := (hf.block b h.lt hb).trans h
theorem IsM.put (h : IsM w b l) (hm : P.underlying mt = some (.map kt et)) (hk : P.underlying kt = some (.int .i64)) (k : Int) (v : Value) (hn : ∀ p ∈ l, p.1 ≠ k) :
    ∃ w', (Instr.mapUpdate mt (.map (some b)) (.int .i64 k) v).run P w = .ok () w' ∧ IsM w' b (l ++ [(k, v)]) ∧ Fr (fun i => i = b) w w' ∧ w'.heap.size = w.heap.size := by
  have hlt := h.lt
  have hf := findNow_none k l 0 0 hn
  have hc : (Instr.checkKey false 10000 kt (.int .i64 k)).run P w = .ok () w := MapKept.run_checkKey (k := .int .i64 k) hk (by simp [MapKept.IsKey]) false 9999
  refine ⟨{ w with heap := w.heap.setIfInBounds b (.map ((ents 0 l).toArray.push { key := .int .i64 k, val := v, born := l.length }) (l.length + 1)) }, ?_, ?_, ⟨rfl, rfl, rfl, by simp, fun i hi hs => ?_⟩, by simp⟩
  · simp [Instr.mapUpdate, run_underlying hm, MapKept.run_getObj_map h, hc, MapKept.run_findKey hk hf, MapKept.run_setObj_map _ h, Result.andThen]
  · unfold IsM
    simp only
    rw [Array.getElem?_setIfInBounds_self_of_lt hlt, ents_snoc]
    simp
  · simp only
    rw [Array.getElem?_setIfInBounds_ne (fun e => hs e.symm)]
theorem IsM.look (h : IsM w b l) (hm : P.underlying mt = some (.map kt et)) (hk : P.underlying kt = some (.int .i64)) (k : Int) (v : Value) (hf : (l.find? fun p => p.1 == k) = some (k, v)) :
    (Instr.lookup mt (.map (some b)) (.int .i64 k) true).run P w = .ok (.tuple #[v, .bool true]) w := by
  obtain ⟨m, hm'⟩ := findNow_some k v l 0 0 hf
  have hc : ∀ e, (Instr.checkKey e 10000 kt (.int .i64 k)).run P w = .ok () w := fun e => MapKept.run_checkKey (k := .int .i64 k) hk (by simp [MapKept.IsKey]) e 9999
  simp [Instr.lookup, run_underlying hm, MapKept.run_getObj_map h, hc, MapKept.run_findKey hk hm', Result.andThen]
end
end Go.Proofs.Ytkciedcfphhenaa
