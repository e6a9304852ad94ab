/-
  A Sum in memory: a new one, more bytes, what it tells.
-/
import Derived.Test.YtjhgegoipnjgmaaCrcTab
import Derived.Deep.QuietTactic
import Derived.BigQuiet
namespace Go.Proofs.Ytjhgegoipnjgmaa
open Go.RowKit Plain

/-- What is laid into cells by a fold, place by place. -/
theorem fold_get (off : Nat) : ∀ (l : List Value) (n : Nat) (cells : Array Value) (i : Nat),
    ((l.zipIdx n).foldl (fun cs (x : Value × Nat) => cs.setIfInBounds (off + x.2) x.1) cells)[i]? = if off + n ≤ i ∧ i < off + n + l.length ∧ i < cells.size then l[i - (off + n)]? else cells[i]?
  | [], n, cells, i => by simp; omega
  | v :: r, n, cells, i => by
    rw [List.zipIdx_cons, List.foldl_cons, fold_get off r (n + 1)]
    simp only [Array.size_setIfInBounds, List.length_cons]
    by_cases h : off + (n + 1) ≤ i ∧ i < off + (n + 1) + r.length ∧ i < cells.size
    · rw [if_pos h, if_pos (by omega), show i - (off + n) = (i - (off + (n + 1))) + 1 by omega]
      simp
    · rw [if_neg h]
      by_cases e : i = off + n
      · subst e
        by_cases hl : off + n < cells.size
        · rw [if_pos (by omega)]; simp [hl]
        · rw [if_neg (by omega)]; simp [hl]
      · rw [Array.getElem?_setIfInBounds_ne (by omega), if_neg (by omega)]

/-- A Sum's cells: the register, how many bytes came, the steps. -/
def SumC (r n : Nat) (T : List Nat) : Array Value := #[.int .u32 (r : Int), .int .i64 (n : Int)] ++ US T
theorem SumC_size (r n : Nat) (T : List Nat) : (SumC r n T).size = T.length + 2 := by simp [SumC, US_size]; omega
theorem SumC_0 (r n : Nat) (T : List Nat) : (SumC r n T)[0]? = some (.int .u32 (r : Int)) := by simp [SumC, Array.getElem?_append]
theorem SumC_1 (r n : Nat) (T : List Nat) : (SumC r n T)[1]? = some (.int .i64 (n : Int)) := by simp [SumC, Array.getElem?_append]
theorem SumC_2 (r n j : Nat) (T : List Nat) : (SumC r n T)[2 + j]? = (T[j]?).map U := by
  rw [SumC, Array.getElem?_append, if_neg (by simp)]
  simp [US_get]
theorem SumC_set0 (r r' n : Nat) (T : List Nat) : (SumC r n T).setIfInBounds 0 (.int .u32 (r' : Int)) = SumC r' n T := by
  simp [SumC]
theorem SumC_set1 (r n n' : Nat) (T : List Nat) : (SumC r n T).setIfInBounds 1 (.int .i64 (n' : Int)) = SumC r n' T := by
  simp [SumC]

theorem sum_info : (Try.prog.info? 48).map (fun i => (i.zero, i.size)) = some (some (.agg (SumC 0 0 zeros)), 258) := by kernel_rfl
theorem sum_places : (Try.prog.underlying 48).map (fun d => match d with | .struct fields => fields.toList.mapM (fun f => (Try.prog.info? f.type).map fun i => (f.offset, i.size)) | _ => none) = some (some [(0, 1), (1, 1), (2, 256)]) := by kernel_rfl
theorem fold_reg (Z : List Nat) : ((Value.int .u32 4294967295).cells.zipIdx.foldl (fun (cs : Array Value) (x : Value × Nat) => cs.setIfInBounds (0 + x.2) x.1) (SumC 0 0 Z)) = SumC 4294967295 0 Z :=
  SumC_set0 0 4294967295 0 Z
theorem fold_steps (Z T : List Nat) (hz : Z.length = 256) (hT : T.length = 256) : (US T).zipIdx.foldl (fun (cs : Array Value) (x : Value × Nat) => cs.setIfInBounds (2 + x.2) x.1) (SumC 4294967295 0 Z) = SumC 4294967295 0 T := by
  rw [← Array.foldl_toList, Array.toList_zipIdx]
  apply Array.ext_getElem?
  intro i
  rw [fold_get 2 (US T).toList 0]
  by_cases h : 2 ≤ i ∧ i < 2 + (US T).toList.length ∧ i < (SumC 4294967295 0 Z).size
  · rw [if_pos (by simpa using h)]
    obtain ⟨j, rfl⟩ : ∃ j, i = 2 + j := ⟨i - 2, by omega⟩
    rw [SumC_2]
    simp [US]
  · rw [if_neg (by simpa using h)]
    rw [SumC_size, Array.length_toList, US_size, hT, hz] at h
    have hi : i = 0 ∨ i = 1 ∨ 258 ≤ i := by omega
    rcases hi with rfl | rfl | hi
    · rw [SumC_0, SumC_0]
    · rw [SumC_1, SumC_1]
    · rw [Array.getElem?_eq_none (by rw [SumC_size, hz]; omega), Array.getElem?_eq_none (by rw [SumC_size, hT]; omega)]
theorem fill_sum (Z T : List Nat) (hz : Z.length = 256) (hT : T.length = 256) :
    Instr.fill (([(0, 1), (1, 1), (2, 256)] : List (Nat × Nat)).toArray[·]?) (SumC 0 0 Z) [(0, .int .u32 4294967295), (2, .agg (US T))] = some (SumC 4294967295 0 T) := by
  have h1 : ((Value.int .u32 4294967295).cells.zipIdx.foldl (fun (cs : Array Value) (x : Value × Nat) => cs.setIfInBounds (0 + x.2) x.1) (SumC 0 0 Z)) = SumC 4294967295 0 Z := fold_reg Z
  have h2 := fold_steps Z T hz hT
  have e1 : (Value.int .u32 4294967295).cells.size = 1 := rfl
  have e2 : (Value.agg (US T)).cells = US T := rfl
  have s1 : (SumC 0 0 Z).size = 258 := by rw [SumC_size, hz]
  have s2 : (SumC 4294967295 0 Z).size = 258 := by rw [SumC_size, hz]
  have s3 : (US T).size = 256 := by rw [US_size, hT]
  show (if (Value.int .u32 4294967295).cells.size ≠ 1 || 0 + (Value.int .u32 4294967295).cells.size > (SumC 0 0 Z).size then none else Instr.fill _ _ _) = _
  rw [if_neg (by simp [e1, s1]), h1]
  show (if (Value.agg (US T)).cells.size ≠ 256 || 2 + (Value.agg (US T)).cells.size > (SumC 4294967295 0 Z).size then none else Instr.fill _ _ _) = _
  rw [if_neg (by simp [e2, s2, s3]), e2, h2]
  rfl
theorem built_sum (T : List Nat) (hT : T.length = 256) :
    Try.prog.built 48 [(0, .int .u32 4294967295), (2, .agg (US T))] = some (SumC 4294967295 0 T) := by
  unfold Program.built
  have hi := sum_info
  have hp := sum_places
  cases hq : Try.prog.info? 48 with
  | none => rw [hq] at hi; cases hi
  | some it =>
    rw [hq] at hi
    cases hu : Try.prog.underlying 48 with
    | none => rw [hu] at hp; cases hp
    | some d =>
      rw [hu] at hp
      cases d <;> try (cases hp; done)
      simp only [Option.map_some, Option.some.injEq, Prod.mk.injEq] at hi hp
      simp only [hi.1, hp]
      exact fill_sum zeros T filled_zero.1 hT
/-- A struct built of parts, by what the parts make. -/
theorem wpList_build_eq {P : Program} {ops : Array Oper} {rest : List Oper} {o : Oper} {a : Act} {w : World} {Q : Exit → Act → World → Prop} (hg : o.guard = none) (t : TypeId) (parts : Array (Nat × Operand)) (ho : o.op = .build t parts)
    (vals : List (Nat × Value)) (hv : (parts.toList.map fun x => (x.1, a.eval x.2)) = vals) (cells : Array Value) (hc : P.built t vals = some cells) (h : wpList P ops Q rest (a.put o.dst (.agg cells)) w) : wpList P ops Q (o :: rest) a w :=
  have e : (parts.map fun (i, x) => (i, a.eval x)).toList = vals := by rw [Array.toList_map]; exact hv
  wpList_build hg t parts ho (by rw [e, hc]; rfl) (by rw [e, hc]; exact h)
end Go.Proofs.Ytjhgegoipnjgmaa
