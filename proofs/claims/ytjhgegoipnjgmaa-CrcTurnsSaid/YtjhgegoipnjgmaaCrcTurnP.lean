/-
  Bytes of which some within four side by side are turned, and their sums. Nothing of the landed code is spoken of here.
-/
import Derived.Test.YtjhgegoipnjgmaaCrcPure
namespace Go.Proofs.Ytjhgegoipnjgmaa.Plain
set_option linter.unusedVariables false

/-- o is b, of which the k bytes from p on are turned by D's. -/
def Oth (b : List Nat) (p : Nat) (D : List Nat) (k : Nat) (o : List Nat) : Prop :=
  o.length = b.length ∧ ∀ j, o[j]? = if p ≤ j ∧ j < p + k then (b[j]?).map (fun x => x ^^^ D.getD (j - p) 0) else b[j]?
theorem Oth.zero (b : List Nat) (p : Nat) (D : List Nat) : Oth b p D 0 b := ⟨rfl, fun j => by rw [if_neg (by omega)]⟩
theorem Oth.step {b : List Nat} {p : Nat} {D : List Nat} {k : Nat} {o : List Nat} (h : Oth b p D k o) (hk : p + k < b.length) : Oth b p D (k + 1) (o.set (p + k) (b[p + k] ^^^ D.getD k 0)) := by
  refine ⟨by rw [List.length_set]; exact h.1, fun j => ?_⟩
  by_cases e : j = p + k
  · subst e
    rw [List.getElem?_set_self (by rw [h.1]; exact hk), if_pos (by omega), List.getElem?_eq_getElem hk, show p + k - p = k by omega]
    rfl
  · rw [List.getElem?_set_ne (by omega), h.2 j]
    by_cases hj : p ≤ j ∧ j < p + k
    · rw [if_pos hj, if_pos (by omega)]
    · rw [if_neg hj, if_neg (by omega)]
theorem Oth.lt {b : List Nat} {p : Nat} {D : List Nat} {k : Nat} {o : List Nat} (h : Oth b p D k o) (hb : ∀ x ∈ b, x < 256) (hD : ∀ j, D.getD j 0 < 256) : ∀ x ∈ o, x < 256 := by
  intro x hx
  obtain ⟨j, hj, rfl⟩ := List.getElem_of_mem hx
  have e := h.2 j
  rw [List.getElem?_eq_getElem hj] at e
  have hjb : j < b.length := by rw [← h.1]; exact hj
  have hbj := hb _ (List.getElem_mem hjb)
  rw [List.getElem?_eq_getElem hjb] at e
  split at e
  · simp only [Option.map_some, Option.some.injEq] at e
    rw [e]
    exact Nat.xor_lt_two_pow (n := 8) hbj (hD _)
  · simp only [Option.some.injEq] at e
    rw [e]; exact hbj
/-- Whether one of the first k is not 0. -/
def anyD (D : List Nat) : Nat → Bool
  | 0 => false
  | k + 1 => anyD D k || (D.getD k 0 != 0)
theorem anyD_true {D : List Nat} : ∀ {k : Nat}, anyD D k = true → ∃ j, j < k ∧ D.getD j 0 ≠ 0
  | k + 1, h => by
    unfold anyD at h
    rcases Bool.or_eq_true _ _ ▸ h with h | h
    · obtain ⟨j, hj, e⟩ := anyD_true h
      exact ⟨j, by omega, e⟩
    · exact ⟨k, by omega, by simpa using h⟩
theorem anyD_false {D : List Nat} : ∀ {k : Nat}, anyD D k = false → ∀ j, j < k → D.getD j 0 = 0
  | k + 1, h, j, hj => by
    unfold anyD at h
    rw [Bool.or_eq_false_iff] at h
    by_cases e : j = k
    · subst e; simpa using h.2
    · exact anyD_false h.1 j (by omega)
theorem Oth.same {b : List Nat} {p : Nat} {D : List Nat} {k : Nat} {o : List Nat} (h : Oth b p D k o) (hD : anyD D k = false) : o = b := by
  apply List.ext_getElem?
  intro j
  rw [h.2 j]
  split
  · next hj =>
    rw [anyD_false hD (j - p) (by omega)]
    cases b[j]? <;> simp
  · rfl
theorem split3 (b : List Nat) (p k : Nat) : b = b.take p ++ ((b.drop p).take k ++ b.drop (p + k)) := by
  conv => lhs; rw [← List.take_append_drop p b, ← List.take_append_drop k (b.drop p), List.drop_drop]
theorem Oth.ahead {b : List Nat} {p : Nat} {D : List Nat} {k : Nat} {o : List Nat} (h : Oth b p D k o) : o.take p = b.take p := by
  apply List.ext_getElem?
  intro j
  by_cases hj : j < p
  · rw [List.getElem?_take_of_lt hj, List.getElem?_take_of_lt hj, h.2 j, if_neg (by omega)]
  · rw [List.getElem?_eq_none (by rw [List.length_take]; omega), List.getElem?_eq_none (by rw [List.length_take]; omega)]
theorem Oth.behind {b : List Nat} {p : Nat} {D : List Nat} {k : Nat} {o : List Nat} (h : Oth b p D k o) : o.drop (p + k) = b.drop (p + k) := by
  apply List.ext_getElem?
  intro j
  rw [List.getElem?_drop, List.getElem?_drop, h.2, if_neg (by omega)]
theorem Oth.mid_ne {b : List Nat} {p : Nat} {D : List Nat} {k : Nat} {o : List Nat} (h : Oth b p D k o) (hk : p + k ≤ b.length) (hD : anyD D k = true) : (o.drop p).take k ≠ (b.drop p).take k := by
  obtain ⟨j, hj, hne⟩ := anyD_true hD
  intro e
  have e1 := congrArg (fun l => l[j]?) e
  simp only [List.getElem?_take_of_lt hj, List.getElem?_drop] at e1
  rw [h.2 (p + j), if_pos (by omega), List.getElem?_eq_getElem (show p + j < b.length by omega), show p + j - p = j by omega] at e1
  simp only [Option.map_some, Option.some.injEq] at e1
  apply hne
  have : b[p + j] ^^^ (b[p + j] ^^^ D.getD j 0) = b[p + j] ^^^ b[p + j] := by rw [e1]
  rwa [← Nat.xor_assoc, Nat.xor_self, Nat.zero_xor] at this
theorem Oth.crc {b : List Nat} {p : Nat} {D : List Nat} {k : Nat} {o : List Nat} (h : Oth b p D k o) (hb : ∀ x ∈ b, x < 256) (hDl : ∀ j, D.getD j 0 < 256) (hk : p + k ≤ b.length) (h4 : k ≤ 4) (hD : anyD D k = true) : crcL o ≠ crcL b := by
  have ho := h.lt hb hDl
  have e1 := split3 o p k
  have e2 := split3 b p k
  rw [h.ahead, h.behind] at e1
  have l1 : ((o.drop p).take k).length = k := List.length_take_of_le (by rw [List.length_drop, h.1]; omega)
  have l2 : ((b.drop p).take k).length = k := List.length_take_of_le (by rw [List.length_drop]; omega)
  have := crcL_burst (b.take p) ((o.drop p).take k) ((b.drop p).take k) (b.drop (p + k)) (by rw [l1, l2]) (by rw [l1]; exact h4) (fun x hx => hb x (List.mem_of_mem_take hx))
    (fun x hx => ho x (List.mem_of_mem_drop (List.mem_of_mem_take hx))) (fun x hx => hb x (List.mem_of_mem_drop (List.mem_of_mem_take hx))) (fun x hx => hb x (List.mem_of_mem_drop hx)) (h.mid_ne hk hD)
  rwa [← e1, ← e2] at this
end Go.Proofs.Ytjhgegoipnjgmaa.Plain
