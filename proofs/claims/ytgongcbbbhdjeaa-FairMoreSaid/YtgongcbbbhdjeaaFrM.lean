
/-
  A map from numbers to numbers, with how many keys it has. No function of the landed code is spoken of here.
-/
import Derived.Test.YtgongcbbbhdjeaaRgOwn
import Derived.Maps.OwnSet
set_option linter.unusedVariables false
set_option linter.unusedSimpArgs false
namespace Go.Proofs.Ytgongcbbbhdjeaa
open Go.RowKit Plain

def Plain.updN (f : Int → Option Nat) (k : Int) (x : Option Nat) : Int → Option Nat := fun j => if j = k then x else f j
def kvE (e : MapEntry) : Value × Value := (e.key, e.val)
def kvN (p : Int × Nat) : Value × Value := (.int .i64 p.1, .int .i64 (p.2 : Int))
theorem findNow_skipN (k : Int) (rest : List MapEntry) : ∀ (e1 : List MapEntry) (l1 : List (Int × Nat)) (j : Nat), e1.map kvE = l1.map kvN → (∀ p ∈ l1, p.1 ≠ k) →
    Instr.findNow (.int .i64) (.int .i64 k) (e1 ++ rest) j = Instr.findNow (.int .i64) (.int .i64 k) rest (j + e1.length)
  | [], [], j, _, _ => rfl
  | [], p :: l1, j, h, _ => by simp at h
  | e :: e1, [], j, h, _ => by simp at h
  | e :: e1, p :: l1, j, h, hn => by
    rw [List.map_cons, List.map_cons] at h
    injection h with h1 h2
    have hk : e.key = .int .i64 p.1 := congrArg Prod.fst h1
    have h3 : (k == p.1) = false := by rw [beq_eq_false_iff_ne]; exact fun e => hn p (by simp) e.symm
    have h4 := findNow_skipN k rest e1 l1 (j + 1) h2 (fun q hq => hn q (by simp [hq]))
    have h5 : Instr.findNow (.int .i64) (.int .i64 k) (e :: (e1 ++ rest)) j = Instr.findNow (.int .i64) (.int .i64 k) (e1 ++ rest) (j + 1) := by
      rw [Instr.findNow, hk]
      simp [Instr.sameNow, h3]
    rw [List.cons_append, List.length_cons, h5, h4, show j + 1 + e1.length = j + (e1.length + 1) by omega]
/-- Block b is a map that says f; it has n keys. -/
def IsMN (w : World) (b : Nat) (f : Int → Option Nat) (n : Nat) : Prop :=
  ∃ (es : Array MapEntry) (clock : Nat) (l : List (Int × Nat)), w.heap[b]? = some (.map es clock) ∧ es.toList.map kvE = l.map kvN ∧ (l.map (·.1)).Nodup ∧ (∀ k i, f k = some i ↔ (k, i) ∈ l) ∧ l.length = n
theorem mid_neN {k : Int} {i : Nat} {l1 l2 : List (Int × Nat)} (hn : ((l1 ++ (k, i) :: l2).map (·.1)).Nodup) : (∀ p ∈ l1, p.1 ≠ k) ∧ ∀ p ∈ l2, p.1 ≠ k := by
  rw [List.map_append, List.map_cons, List.nodup_append] at hn
  obtain ⟨h1, h2, h3⟩ := hn
  refine ⟨fun p hp e => ?_, fun p hp e => ?_⟩
  · exact h3 p.1 (List.mem_map_of_mem hp) k (by simp) e
  · exact (List.nodup_cons.1 h2).1 (List.mem_map.2 ⟨p, hp, e⟩)
theorem modify_midN {α : Type} (f : α → α) (e1 e3 : List α) (e : α) : (e1 ++ e :: e3).modify e1.length f = e1 ++ f e :: e3 := by
  induction e1 with
  | nil => simp
  | cons a l ih => simp [ih]
section
variable {P : Program} {w : World} {b n : Nat} {f : Int → Option Nat} {mt kt et : TypeId}
theorem IsMN.lt (h : IsMN w b f n) : b < w.heap.size := by
  obtain ⟨es, cl, l, h, _⟩ := h
  exact (Array.getElem?_eq_some_iff.1 h).1
theorem IsMN.of_block {w' : World} (h : IsMN w b f n) (hb : w'.heap[b]? = w.heap[b]?) : IsMN w' b f n := by
  obtain ⟨es, cl, l, h1, h2⟩ := h
  exact ⟨es, cl, l, hb.trans h1, h2⟩
theorem IsMN.fr {S : Nat → Prop} {w' : World} (h : IsMN w b f n) (hf : Fr S w w') (hb : ¬ S b) : IsMN w' b f n := h.of_block (hf.block b h.lt hb)
theorem IsMN.not_cells (h : IsMN w b f n) {cs : Array Value} {t : TypeId} {x : Nat × Nat} (hc : w.heap[b]? = some (.cells cs t x)) : False := by
  obtain ⟨es, cl, l, h1, h2⟩ := h
  rw [h1] at hc
  cases hc
theorem IsMN.new (w : World) : IsMN (w.alloc (.map #[] 0)) w.heap.size (fun _ => none) 0 := ⟨#[], 0, [], heap_alloc_new w _, rfl, by simp, fun k i => by simp, rfl⟩
theorem key_okN (hk : P.underlying kt = some (.int .i64)) (e : Bool) (k : Int) : (Instr.checkKey e 10000 kt (.int .i64 k)).run P w = .ok () w := MapKept.run_checkKey (k := .int .i64 k) hk (by simp [MapKept.IsKey]) e 9999
theorem IsMN.look (h : IsMN w b f n) (hm : P.underlying mt = some (.map kt et)) (hk : P.underlying kt = some (.int .i64)) (hz : (zeroValue et).run P w = .ok (.int .i64 0) w) (k : Int) :
    (Instr.lookup mt (.map (some b)) (.int .i64 k) false).run P w = .ok (.int .i64 (((f k).getD 0 : Nat) : Int)) w := by
  obtain ⟨es, cl, l, h1, h2, h3, h4, _⟩ := h
  rcases hf : f k with _ | i
  · have hn : ∀ p ∈ l, p.1 ≠ k := fun p hp e => by
      have := (h4 k p.2).2 (by rw [← e]; exact hp)
      rw [hf] at this
      cases this
    have h5 := findNow_skipN k [] es.toList l 0 h2 hn
    rw [List.append_nil] at h5
    have h6 : Instr.findNow (.int .i64) (.int .i64 k) es.toList 0 = some none := h5
    simp [Instr.lookup, run_underlying hm, MapKept.run_getObj_map h1, key_okN hk, MapKept.run_findKey hk h6, Result.andThen, hz]
  · obtain ⟨l1, l2, rfl⟩ := List.append_of_mem ((h4 k i).1 hf)
    have hn := (mid_neN h3).1
    rw [List.map_append, List.map_cons] at h2
    obtain ⟨e1, e2, he, g1, g2⟩ := List.map_eq_append_iff.1 h2
    obtain ⟨e, e3, rfl, g3, g4⟩ := List.map_eq_cons_iff.1 g2
    have h5 := findNow_skipN k (e :: e3) e1 l1 0 g1 hn
    rw [← he] at h5
    have hek : e.key = .int .i64 k := congrArg Prod.fst g3
    have hev : e.val = .int .i64 (i : Int) := congrArg Prod.snd g3
    have h6 : Instr.findNow (.int .i64) (.int .i64 k) es.toList 0 = some (some (0 + e1.length, .int .i64 (i : Int))) := by
      rw [h5]
      unfold Instr.findNow
      rw [hek, hev]
      simp [Instr.sameNow]
    simp [Instr.lookup, run_underlying hm, MapKept.run_getObj_map h1, key_okN hk, MapKept.run_findKey hk h6, Result.andThen]
theorem IsMN.put (h : IsMN w b f n) (hm : P.underlying mt = some (.map kt et)) (hk : P.underlying kt = some (.int .i64)) (k : Int) (i : Nat) :
    ∃ w', (Instr.mapUpdate mt (.map (some b)) (.int .i64 k) (.int .i64 (i : Int))).run P w = .ok () w' ∧ IsMN w' b (updN f k (some i)) (if f k = none then n + 1 else n) ∧ Fr (fun i => i = b) w w' ∧ w'.heap.size = w.heap.size := by
  have hlt := h.lt
  obtain ⟨es, cl, l, h1, h2, h3, h4, h0⟩ := h
  rcases hf : f k with _ | i0
  · have hn : ∀ p ∈ l, p.1 ≠ k := fun p hp e => by
      have := (h4 k p.2).2 (by rw [← e]; exact hp)
      rw [hf] at this
      cases this
    have h5 := findNow_skipN k [] es.toList l 0 h2 hn
    rw [List.append_nil] at h5
    have h6 : Instr.findNow (.int .i64) (.int .i64 k) es.toList 0 = some none := h5
    refine ⟨{ w with heap := w.heap.setIfInBounds b (.map (es.push { key := .int .i64 k, val := .int .i64 (i : Int), born := cl }) (cl + 1)) }, ?_, ⟨_, _, l ++ [(k, i)], Array.getElem?_setIfInBounds_self_of_lt hlt, ?_, ?_, fun k' i' => ?_, by simp [h0]⟩, ⟨rfl, rfl, rfl, by simp, fun j hj hs => ?_⟩, by simp⟩
    · simp [Instr.mapUpdate, run_underlying hm, MapKept.run_getObj_map h1, key_okN hk, MapKept.run_findKey hk h6, MapKept.run_setObj_map _ h1, Result.andThen]
    · simp [h2, kvE, kvN]
    · rw [List.map_append, List.nodup_append]
      refine ⟨h3, by simp, fun x hx y hy e => ?_⟩
      obtain ⟨p, hp, rfl⟩ := List.mem_map.1 hx
      simp at hy
      exact hn p hp (e.trans hy)
    · unfold updN
      rw [List.mem_append, List.mem_singleton, Prod.mk.injEq, ← h4]
      by_cases e : k' = k
      · subst e
        rw [if_pos rfl, hf]
        simp [eq_comm]
      · rw [if_neg e]
        simp [e]
    · simp only
      rw [Array.getElem?_setIfInBounds_ne (fun e => hs e.symm)]
  · obtain ⟨l1, l2, rfl⟩ := List.append_of_mem ((h4 k i0).1 hf)
    have hn := mid_neN h3
    have h2' := h2
    rw [List.map_append, List.map_cons] at h2
    obtain ⟨e1, e2, he, g1, g2⟩ := List.map_eq_append_iff.1 h2
    obtain ⟨e, e3, rfl, g3, g4⟩ := List.map_eq_cons_iff.1 g2
    have h5 := findNow_skipN k (e :: e3) e1 l1 0 g1 hn.1
    rw [← he] at h5
    have hek : e.key = .int .i64 k := congrArg Prod.fst g3
    have hev : e.val = .int .i64 (i0 : Int) := congrArg Prod.snd g3
    have h6 : Instr.findNow (.int .i64) (.int .i64 k) es.toList 0 = some (some (0 + e1.length, .int .i64 (i0 : Int))) := by
      rw [h5]
      unfold Instr.findNow
      rw [hek, hev]
      simp [Instr.sameNow]
    rw [Nat.zero_add] at h6
    have hat : es[e1.length]? = some e := by
      rw [← Array.getElem?_toList, he]
      simp
    have hstay : (Instr.keyThatStays (.int .i64 k) (.int .i64 k)).run P w = .ok (.int .i64 k) w := MapKept.run_keyThatStays (d := .int .i64) (by simp [MapKept.IsKey])
    refine ⟨{ w with heap := w.heap.setIfInBounds b (.map (es.modify e1.length fun e => { e with key := .int .i64 k, val := .int .i64 (i : Int) }) cl) }, ?_, ⟨_, _, l1 ++ (k, i) :: l2, Array.getElem?_setIfInBounds_self_of_lt hlt, ?_, ?_, fun k' i' => ?_, by simpa using h0⟩, ⟨rfl, rfl, rfl, by simp, fun j hj hs => ?_⟩, by simp⟩
    · simp [Instr.mapUpdate, run_underlying hm, MapKept.run_getObj_map h1, key_okN hk, MapKept.run_findKey hk h6, hat, hek, hstay, MapKept.run_setObj_map _ h1, Result.andThen]
    · rw [Array.toList_modify, he, modify_midN]
      simp [g1, g4, kvE, kvN]
    · simpa using h3
    · unfold updN
      have h7 := h4 k' i'
      rw [List.mem_append, List.mem_cons, Prod.mk.injEq] at h7 ⊢
      by_cases e : k' = k
      · subst e
        rw [if_pos rfl]
        constructor
        · intro e
          injection e with e
          exact .inr (.inl ⟨rfl, e.symm⟩)
        · rintro (hp | ⟨_, rfl⟩ | hp)
          · exact absurd rfl (hn.1 _ hp)
          · rfl
          · exact absurd rfl (hn.2 _ hp)
      · rw [if_neg e, h7]
        simp [e]
    · simp only
      rw [Array.getElem?_setIfInBounds_ne (fun e => hs e.symm)]
theorem IsMN.len (h : IsMN w b f n) (hm : P.underlying mt = some (.map kt et)) (ty : TypeId) : (Builtin.len_ #[mt] ty #[.map (some b)]).run P w = .ok (.int .i64 (n : Int)) w := by
  obtain ⟨es, cl, l, h1, h2, h3, h4, h0⟩ := h
  have : es.size = n := by
    have := congrArg List.length h2
    simp at this
    omega
  simp [Builtin.len_, run_underlying hm, MapKept.run_getObj_map h1, goInt, Result.andThen, this]
theorem IsMN.wipe (h : IsMN w b f n) (hm : P.underlying mt = some (.map kt et)) (ty : TypeId) :
    ∃ w', (Builtin.clear_ #[mt] ty #[.map (some b)]).run P w = .ok (.tuple #[]) w' ∧ IsMN w' b (fun _ => none) 0 ∧ Fr (fun i => i = b) w w' ∧ w'.heap.size = w.heap.size := by
  have hlt := h.lt
  obtain ⟨es, cl, l, h1, h2, h3, h4, h0⟩ := h
  refine ⟨{ w with heap := w.heap.setIfInBounds b (.map #[] cl) }, ?_, ⟨_, _, [], Array.getElem?_setIfInBounds_self_of_lt hlt, rfl, by simp, fun k i => by simp, rfl⟩, ⟨rfl, rfl, rfl, by simp, fun j hj hs => ?_⟩, by simp⟩
  · simp [Builtin.clear_, run_underlying hm, MapKept.run_getObj_map h1, MapKept.run_setObj_map _ h1, Result.andThen]
  · simp only
    rw [Array.getElem?_setIfInBounds_ne (fun e => hs e.symm)]
variable {ops : Array Oper} {rest : List Oper} {o : Oper} {a : Act} {Q : Exit → Act → World → Prop} {K : Act → World → Prop} {E : Prop}
theorem wpList_look_mn (hg : o.guard = none) (m x : Operand) (t : TypeId) (hop : o.op = Op.lookup t m x false) (hm : P.underlying t = some (.map kt et)) (hk : P.underlying kt = some (.int .i64)) (hz : (zeroValue et).run P w = .ok (.int .i64 0) w)
    (b n : Nat) (f : Int → Option Nat) (h : IsMN w b f n) (k : Int) (hm' : a.eval m = .map (some b)) (hx : a.eval x = .int .i64 k) (hK : wpList P ops Q rest (a.put o.dst (.int .i64 (((f k).getD 0 : Nat) : Int))) w) : wpList P ops Q (o :: rest) a w := by
  refine wpList_plain hg fun K' hK' => ?_
  have hrun := h.look hm hk hz k
  unfold Oper.wp
  simp [execOp, hop, hm', hx, hrun, Result.andThen]
  exact hK' _ _ hK
theorem wpList_put_mn (hg : o.guard = none) (m x v : Operand) (t : TypeId) (hop : o.op = Op.mapUpdate t m x v) (hm : P.underlying t = some (.map kt et)) (hk : P.underlying kt = some (.int .i64))
    (b n : Nat) (f : Int → Option Nat) (h : IsMN w b f n) (k : Int) (i : Nat) (hm' : a.eval m = .map (some b)) (hx : a.eval x = .int .i64 k) (hv : a.eval v = .int .i64 (i : Int))
    (hK : ∀ w', IsMN w' b (updN f k (some i)) (if f k = none then n + 1 else n) → Fr (fun i => i = b) w w' → w'.heap.size = w.heap.size → wpList P ops Q rest (a.put o.dst undef) w') : wpList P ops Q (o :: rest) a w := by
  refine wpList_plain hg fun K' hK' => ?_
  obtain ⟨w', hrun, h1, h2, h3⟩ := h.put hm hk k i
  unfold Oper.wp
  simp [execOp, hop, hm', hx, hv, hrun, Result.andThen]
  exact hK' _ _ (hK w' h1 h2 h3)
theorem wpList_wipe_mn (hg : o.guard = none) (m : Operand) (t : TypeId) (hop : o.op = Op.call { callee := Callee.builtin Builtin.clear, args := #[m], argTypes := #[t] }) (hm : P.underlying t = some (.map kt et))
    (b n : Nat) (f : Int → Option Nat) (h : IsMN w b f n) (hm' : a.eval m = .map (some b))
    (hK : ∀ w', IsMN w' b (fun _ => none) 0 → Fr (fun i => i = b) w w' → w'.heap.size = w.heap.size → wpList P ops Q rest (a.put o.dst (.tuple #[])) w') : wpList P ops Q (o :: rest) a w := by
  refine wpList_plain hg fun K' hK' => ?_
  obtain ⟨w', hrun, h1, h2, h3⟩ := h.wipe hm o.type
  unfold Oper.wp
  simp [execOp, hop, resolve, invoke, builtin, hm', hrun, Result.andThen]
  exact hK' _ _ (hK w' h1 h2 h3)
end
end Go.Proofs.Ytgongcbbbhdjeaa
