
/-
  Memory of layer 8: a map of where each key stands; a heap of timers. No function of the landed code is spoken of here.
-/
import Derived.Test.YtglgficmfpecgaaRgOwn
import Derived.Test.YtglgficmfpecgaaHpQ
import Derived.Maps.OwnSet
set_option linter.unusedVariables false
set_option linter.unusedSimpArgs false
namespace Go.Proofs.Ytglgficmfpecgaa
open Go.RowKit Plain

def kv (e : MapEntry) : Value × Value := (e.key, e.val)
def kvI (p : Int × Nat) : Value × Value := (.int .i64 p.1, .int .i64 (p.2 : Int))
theorem findNow_skip (k : Int) (rest : List MapEntry) : ∀ (e1 : List MapEntry) (l1 : List (Int × Nat)) (j : Nat), e1.map kv = l1.map kvI → (∀ p ∈ l1, p.1 ≠ k) →
    Instr.findNow (.int .i64) (.int .i64 k) (e1 ++ rest) j = Instr.findNow (.int .i64) (.int .i64 k) rest (j + e1.length)
  | [], [], j, _, _ => rfl
  | [], p :: l1, j, h, _ => by simp at h
  | e :: e1, [], j, h, _ => by simp at h
  | e :: e1, p :: l1, j, h, hn => by
    rw [List.map_cons, List.map_cons] at h
    injection h with h1 h2
    have hk : e.key = .int .i64 p.1 := congrArg Prod.fst h1
    have h3 : (k == p.1) = false := by rw [beq_eq_false_iff_ne]; exact fun e => hn p (by simp) e.symm
    have h4 := findNow_skip k rest e1 l1 (j + 1) h2 (fun q hq => hn q (by simp [hq]))
    have h5 : Instr.findNow (.int .i64) (.int .i64 k) (e :: (e1 ++ rest)) j = Instr.findNow (.int .i64) (.int .i64 k) (e1 ++ rest) (j + 1) := by
      rw [Instr.findNow, hk]
      simp [Instr.sameNow, h3]
    rw [List.cons_append, List.length_cons, h5, h4, show j + 1 + e1.length = j + (e1.length + 1) by omega]
/-- Block b is a map that says where each key stands. -/
def IsMI (w : World) (b : Nat) (f : Int → Option Nat) : Prop :=
  ∃ (es : Array MapEntry) (clock : Nat) (l : List (Int × Nat)), w.heap[b]? = some (.map es clock) ∧ es.toList.map kv = l.map kvI ∧ (l.map (·.1)).Nodup ∧ ∀ k i, f k = some i ↔ (k, i) ∈ l
theorem mid_ne {k : Int} {i : Nat} {l1 l2 : List (Int × Nat)} (hn : ((l1 ++ (k, i) :: l2).map (·.1)).Nodup) : (∀ p ∈ l1, p.1 ≠ k) ∧ ∀ p ∈ l2, p.1 ≠ k := by
  rw [List.map_append, List.map_cons, List.nodup_append] at hn
  obtain ⟨h1, h2, h3⟩ := hn
  refine ⟨fun p hp e => ?_, fun p hp e => ?_⟩
  · exact h3 p.1 (List.mem_map_of_mem hp) k (by simp) e
  · exact (List.nodup_cons.1 h2).1 (List.mem_map.2 ⟨p, hp, e⟩)
theorem modify_mid {α : Type} (f : α → α) (e1 e3 : List α) (e : α) : (e1 ++ e :: e3).modify e1.length f = e1 ++ f e :: e3 := by
  induction e1 with
  | nil => simp
  | cons a l ih => simp [ih]
section
variable {P : Program} {w : World} {b : Nat} {f : Int → Option Nat} {mt kt et : TypeId}
theorem IsMI.lt (h : IsMI w b f) : b < w.heap.size := by
  obtain ⟨es, cl, l, h, _⟩ := h
  exact (Array.getElem?_eq_some_iff.1 h).1
theorem IsMI.fr {S : Nat → Prop} {w' : World} (h : IsMI w b f) (hf : Fr S w w') (hb : ¬ S b) : IsMI w' b f := by
  have hl := h.lt
  obtain ⟨es, cl, l, h1, h2⟩ := h
  exact ⟨es, cl, l, (hf.block b hl hb).trans h1, h2⟩
theorem IsMI.not_cells (h : IsMI w b f) {cs : Array Value} {t : TypeId} {x : Nat × Nat} (hc : w.heap[b]? = some (.cells cs t x)) : False := by
  obtain ⟨es, cl, l, h1, h2⟩ := h
  rw [h1] at hc
  cases hc
theorem IsMI.new (w : World) : IsMI (w.alloc (.map #[] 0)) w.heap.size (fun _ => none) := ⟨#[], 0, [], heap_alloc_new w _, rfl, by simp, fun k i => by simp⟩
theorem key_ok (hk : P.underlying kt = some (.int .i64)) (e : Bool) (k : Int) : (Instr.checkKey e 10000 kt (.int .i64 k)).run P w = .ok () w := MapKept.run_checkKey (k := .int .i64 k) hk (by simp [MapKept.IsKey]) e 9999
def lookV (f : Int → Option Nat) (k : Int) : Value := .tuple #[.int .i64 (((f k).getD 0 : Nat) : Int), .bool (f k).isSome]
theorem IsMI.look (h : IsMI w b f) (hm : P.underlying mt = some (.map kt et)) (hk : P.underlying kt = some (.int .i64)) (hz : (zeroValue et).run P w = .ok (.int .i64 0) w) (k : Int) :
    (Instr.lookup mt (.map (some b)) (.int .i64 k) true).run P w = .ok (lookV f k) w := by
  obtain ⟨es, cl, l, h1, h2, h3, h4⟩ := h
  rcases hf : f k with _ | i
  · have hn : ∀ p ∈ l, p.1 ≠ k := fun p hp e => by
      have := (h4 k p.2).2 (by rw [← e]; exact hp)
      rw [hf] at this
      cases this
    have h5 := findNow_skip k [] es.toList l 0 h2 hn
    rw [List.append_nil] at h5
    have h6 : Instr.findNow (.int .i64) (.int .i64 k) es.toList 0 = some none := h5
    simp [Instr.lookup, run_underlying hm, MapKept.run_getObj_map h1, key_ok hk, MapKept.run_findKey hk h6, Result.andThen, hz, lookV, hf]
  · obtain ⟨l1, l2, rfl⟩ := List.append_of_mem ((h4 k i).1 hf)
    have hn := (mid_ne h3).1
    rw [List.map_append, List.map_cons] at h2
    obtain ⟨e1, e2, he, g1, g2⟩ := List.map_eq_append_iff.1 h2
    obtain ⟨e, e3, rfl, g3, g4⟩ := List.map_eq_cons_iff.1 g2
    have h5 := findNow_skip k (e :: e3) e1 l1 0 g1 hn
    rw [← he] at h5
    have hek : e.key = .int .i64 k := congrArg Prod.fst g3
    have hev : e.val = .int .i64 (i : Int) := congrArg Prod.snd g3
    have h6 : Instr.findNow (.int .i64) (.int .i64 k) es.toList 0 = some (some (0 + e1.length, .int .i64 (i : Int))) := by
      rw [h5]
      unfold Instr.findNow
      rw [hek, hev]
      simp [Instr.sameNow]
    simp [Instr.lookup, run_underlying hm, MapKept.run_getObj_map h1, key_ok hk, MapKept.run_findKey hk h6, Result.andThen, lookV, hf]
theorem IsMI.put (h : IsMI w b f) (hm : P.underlying mt = some (.map kt et)) (hk : P.underlying kt = some (.int .i64)) (k : Int) (i : Nat) :
    ∃ w', (Instr.mapUpdate mt (.map (some b)) (.int .i64 k) (.int .i64 (i : Int))).run P w = .ok () w' ∧ IsMI w' b (upd f k (some i)) ∧ Fr (fun i => i = b) w w' ∧ w'.heap.size = w.heap.size := by
  have hlt := h.lt
  obtain ⟨es, cl, l, h1, h2, h3, h4⟩ := h
  rcases hf : f k with _ | i0
  · have hn : ∀ p ∈ l, p.1 ≠ k := fun p hp e => by
      have := (h4 k p.2).2 (by rw [← e]; exact hp)
      rw [hf] at this
      cases this
    have h5 := findNow_skip k [] es.toList l 0 h2 hn
    rw [List.append_nil] at h5
    have h6 : Instr.findNow (.int .i64) (.int .i64 k) es.toList 0 = some none := h5
    refine ⟨{ w with heap := w.heap.setIfInBounds b (.map (es.push { key := .int .i64 k, val := .int .i64 (i : Int), born := cl }) (cl + 1)) }, ?_, ⟨_, _, l ++ [(k, i)], Array.getElem?_setIfInBounds_self_of_lt hlt, ?_, ?_, fun k' i' => ?_⟩, ⟨rfl, rfl, rfl, by simp, fun j hj hs => ?_⟩, by simp⟩
    · simp [Instr.mapUpdate, run_underlying hm, MapKept.run_getObj_map h1, key_ok hk, MapKept.run_findKey hk h6, MapKept.run_setObj_map _ h1, Result.andThen]
    · simp [h2, kv, kvI]
    · rw [List.map_append, List.nodup_append]
      refine ⟨h3, by simp, fun x hx y hy e => ?_⟩
      obtain ⟨p, hp, rfl⟩ := List.mem_map.1 hx
      simp at hy
      exact hn p hp (e.trans hy)
    · unfold upd
      rw [List.mem_append, List.mem_singleton, Prod.mk.injEq, ← h4]
      by_cases e : k' = k
      · subst e
        rw [if_pos rfl, hf]
        simp [eq_comm]
      · rw [if_neg e]
        simp [e]
    · simp only
      rw [Array.getElem?_setIfInBounds_ne (fun e => hs e.symm)]
  · obtain ⟨l1, l2, rfl⟩ := List.append_of_mem ((h4 k i0).1 hf)
    have hn := mid_ne h3
    have h2' := h2
    rw [List.map_append, List.map_cons] at h2
    obtain ⟨e1, e2, he, g1, g2⟩ := List.map_eq_append_iff.1 h2
    obtain ⟨e, e3, rfl, g3, g4⟩ := List.map_eq_cons_iff.1 g2
    have h5 := findNow_skip k (e :: e3) e1 l1 0 g1 hn.1
    rw [← he] at h5
    have hek : e.key = .int .i64 k := congrArg Prod.fst g3
    have hev : e.val = .int .i64 (i0 : Int) := congrArg Prod.snd g3
    have h6 : Instr.findNow (.int .i64) (.int .i64 k) es.toList 0 = some (some (0 + e1.length, .int .i64 (i0 : Int))) := by
      rw [h5]
      unfold Instr.findNow
      rw [hek, hev]
      simp [Instr.sameNow]
    rw [Nat.zero_add] at h6
    have hat : es[e1.length]? = some e := by
      rw [← Array.getElem?_toList, he]
      simp
    have hstay : (Instr.keyThatStays (.int .i64 k) (.int .i64 k)).run P w = .ok (.int .i64 k) w := MapKept.run_keyThatStays (d := .int .i64) (by simp [MapKept.IsKey])
    refine ⟨{ w with heap := w.heap.setIfInBounds b (.map (es.modify e1.length fun e => { e with key := .int .i64 k, val := .int .i64 (i : Int) }) cl) }, ?_, ⟨_, _, l1 ++ (k, i) :: l2, Array.getElem?_setIfInBounds_self_of_lt hlt, ?_, ?_, fun k' i' => ?_⟩, ⟨rfl, rfl, rfl, by simp, fun j hj hs => ?_⟩, by simp⟩
    · simp [Instr.mapUpdate, run_underlying hm, MapKept.run_getObj_map h1, key_ok hk, MapKept.run_findKey hk h6, hat, hek, hstay, MapKept.run_setObj_map _ h1, Result.andThen]
    · rw [Array.toList_modify, he, modify_mid]
      simp [g1, g4, kv, kvI]
    · simpa using h3
    · unfold upd
      have h7 := h4 k' i'
      rw [List.mem_append, List.mem_cons, Prod.mk.injEq] at h7 ⊢
      by_cases e : k' = k
      · subst e
        rw [if_pos rfl]
        constructor
        · intro e
          injection e with e
          exact .inr (.inl ⟨rfl, e.symm⟩)
        · rintro (hp | ⟨_, rfl⟩ | hp)
          · exact absurd rfl (hn.1 _ hp)
          · rfl
          · exact absurd rfl (hn.2 _ hp)
      · rw [if_neg e, h7]
        simp [e]
    · simp only
      rw [Array.getElem?_setIfInBounds_ne (fun e => hs e.symm)]
theorem IsMI.del (h : IsMI w b f) (hm : P.underlying mt = some (.map kt et)) (hk : P.underlying kt = some (.int .i64)) (k : Int) (t : TypeId) :
    ∃ w', (Builtin.delete_ #[mt, kt] t #[.map (some b), .int .i64 k]).run P w = .ok (.tuple #[]) w' ∧ IsMI w' b (upd f k none) ∧ Fr (fun i => i = b) w w' ∧ w'.heap.size = w.heap.size := by
  have hlt := h.lt
  obtain ⟨es, cl, l, h1, h2, h3, h4⟩ := h
  rcases hf : f k with _ | i0
  · have hn : ∀ p ∈ l, p.1 ≠ k := fun p hp e => by
      have := (h4 k p.2).2 (by rw [← e]; exact hp)
      rw [hf] at this
      cases this
    have h5 := findNow_skip k [] es.toList l 0 h2 hn
    rw [List.append_nil] at h5
    have h6 : Instr.findNow (.int .i64) (.int .i64 k) es.toList 0 = some none := h5
    refine ⟨{ w with heap := w.heap.setIfInBounds b (.map es cl) }, ?_, ⟨_, _, l, Array.getElem?_setIfInBounds_self_of_lt hlt, h2, h3, fun k' i' => ?_⟩, ⟨rfl, rfl, rfl, by simp, fun j hj hs => ?_⟩, by simp⟩
    · simp [Builtin.delete_, run_underlying hm, MapKept.run_getObj_map h1, key_ok hk, MapKept.run_findKey hk h6, MapKept.run_setObj_map _ h1, Result.andThen]
    · unfold upd
      rw [← h4]
      by_cases e : k' = k
      · subst e
        rw [if_pos rfl, hf]
      · rw [if_neg e]
    · simp only
      rw [Array.getElem?_setIfInBounds_ne (fun e => hs e.symm)]
  · obtain ⟨l1, l2, rfl⟩ := List.append_of_mem ((h4 k i0).1 hf)
    have hn := mid_ne h3
    rw [List.map_append, List.map_cons] at h2
    obtain ⟨e1, e2, he, g1, g2⟩ := List.map_eq_append_iff.1 h2
    obtain ⟨e, e3, rfl, g3, g4⟩ := List.map_eq_cons_iff.1 g2
    have h5 := findNow_skip k (e :: e3) e1 l1 0 g1 hn.1
    rw [← he] at h5
    have hek : e.key = .int .i64 k := congrArg Prod.fst g3
    have hev : e.val = .int .i64 (i0 : Int) := congrArg Prod.snd g3
    have h6 : Instr.findNow (.int .i64) (.int .i64 k) es.toList 0 = some (some (0 + e1.length, .int .i64 (i0 : Int))) := by
      rw [h5]
      unfold Instr.findNow
      rw [hek, hev]
      simp [Instr.sameNow]
    rw [Nat.zero_add] at h6
    refine ⟨{ w with heap := w.heap.setIfInBounds b (.map (es.eraseIdxIfInBounds e1.length) cl) }, ?_, ⟨_, _, l1 ++ l2, Array.getElem?_setIfInBounds_self_of_lt hlt, ?_, ?_, fun k' i' => ?_⟩, ⟨rfl, rfl, rfl, by simp, fun j hj hs => ?_⟩, by simp⟩
    · simp [Builtin.delete_, run_underlying hm, MapKept.run_getObj_map h1, key_ok hk, MapKept.run_findKey hk h6, MapKept.run_setObj_map _ h1, Result.andThen]
    · rw [Array.toList_eraseIdxIfInBounds, he, List.eraseIdx_append_of_length_le (Nat.le_refl _)]
      simp [g1, g4]
    · refine List.Nodup.sublist (List.Sublist.map _ ?_) h3
      exact List.Sublist.append (List.Sublist.refl _) (List.sublist_cons_self _ _)
    · unfold upd
      have h7 := h4 k' i'
      rw [List.mem_append, List.mem_cons, Prod.mk.injEq] at h7
      rw [List.mem_append]
      by_cases e : k' = k
      · subst e
        rw [if_pos rfl]
        constructor
        · intro e
          cases e
        · rintro (hp | hp)
          · exact absurd rfl (hn.1 _ hp)
          · exact absurd rfl (hn.2 _ hp)
      · rw [if_neg e, h7]
        simp [e]
    · simp only
      rw [Array.getElem?_setIfInBounds_ne (fun e => hs e.symm)]
variable {ops : Array Oper} {rest : List Oper} {o : Oper} {a : Act} {Q : Exit → Act → World → Prop} {K : Act → World → Prop} {E : Prop}
theorem wpList_lookup_mi (hg : o.guard = none) (m x : Operand) (t : TypeId) (hop : o.op = Op.lookup t m x true) (hm : P.underlying t = some (.map kt et)) (hk : P.underlying kt = some (.int .i64)) (hz : (zeroValue et).run P w = .ok (.int .i64 0) w)
    (b : Nat) (f : Int → Option Nat) (h : IsMI w b f) (k : Int) (hm' : a.eval m = .map (some b)) (hx : a.eval x = .int .i64 k) (hK : wpList P ops Q rest (a.put o.dst (lookV f k)) w) : wpList P ops Q (o :: rest) a w := by
  refine wpList_plain hg fun K' hK' => ?_
  have hrun := h.look hm hk hz k
  unfold Oper.wp
  simp [execOp, hop, hm', hx, hrun, Result.andThen]
  exact hK' _ _ hK
theorem step_put_mi (hg : o.guard = none) (m x v : Operand) (t : TypeId) (hop : o.op = Op.mapUpdate t m x v) (hm : P.underlying t = some (.map kt et)) (hk : P.underlying kt = some (.int .i64))
    (b : Nat) (f : Int → Option Nat) (h : IsMI w b f) (k : Int) (i : Nat) (hm' : a.eval m = .map (some b)) (hx : a.eval x = .int .i64 k) (hv : a.eval v = .int .i64 (i : Int))
    (hK : ∀ w', IsMI w' b (upd f k (some i)) → Fr (fun i => i = b) w w' → w'.heap.size = w.heap.size → K (a.put o.dst undef) w') :
    if Region.wanted o (yielded ops a.tmps) = true then Oper.wp P o a w K Q else E := by
  have hw : Region.wanted o (yielded ops a.tmps) = true := by simp [Region.wanted, hg]
  rw [if_pos hw]
  obtain ⟨w', hrun, h1, h2, h3⟩ := h.put hm hk k i
  unfold Oper.wp
  simp [execOp, hop, hm', hx, hv, hrun, Result.andThen]
  exact hK w' h1 h2 h3
theorem step_del_mi (hg : o.guard = none) (m x : Operand) (t kt : TypeId) (hop : o.op = Op.call { callee := Callee.builtin Builtin.delete, args := #[m, x], argTypes := #[t, kt] }) (hm : P.underlying t = some (.map kt et)) (hk : P.underlying kt = some (.int .i64))
    (b : Nat) (f : Int → Option Nat) (h : IsMI w b f) (k : Int) (hm' : a.eval m = .map (some b)) (hx : a.eval x = .int .i64 k)
    (hK : ∀ w', IsMI w' b (upd f k none) → Fr (fun i => i = b) w w' → w'.heap.size = w.heap.size → K (a.put o.dst (.tuple #[])) w') :
    if Region.wanted o (yielded ops a.tmps) = true then Oper.wp P o a w K Q else E := by
  have hw : Region.wanted o (yielded ops a.tmps) = true := by simp [Region.wanted, hg]
  rw [if_pos hw]
  obtain ⟨w', hrun, h1, h2, h3⟩ := h.del hm hk k o.type
  unfold Oper.wp
  simp [execOp, hop, resolve, invoke, builtin, hm', hx, hrun, Result.andThen]
  exact hK w' h1 h2 h3
end

/-- The cells of timers. -/
def flat : List Tm → List Value
  | [] => []
  | t :: r => .int .i64 t.1 :: .int .i64 t.2 :: flat r
theorem flat_length : ∀ l : List Tm, (flat l).length = l.length * 2
  | [] => rfl
  | t :: r => by simp [flat, flat_length r]; omega
theorem flat_append : ∀ l r : List Tm, flat (l ++ r) = flat l ++ flat r
  | [], r => rfl
  | t :: l, r => by simp [flat, flat_append l r]
theorem flat_take : ∀ (l : List Tm) (n : Nat), flat (l.take n) = (flat l).take (n * 2)
  | [], n => by simp [flat]
  | t :: l, 0 => by simp [flat]
  | t :: l, n + 1 => by rw [show (n + 1) * 2 = n * 2 + 1 + 1 by omega]; simp [flat, flat_take l n]
theorem flat_drop : ∀ (l : List Tm) (n : Nat), flat (l.drop n) = (flat l).drop (n * 2)
  | [], n => by simp [flat]
  | t :: l, 0 => by simp [flat]
  | t :: l, n + 1 => by rw [show (n + 1) * 2 = n * 2 + 1 + 1 by omega]; simp [flat, flat_drop l n]
theorem flat_at : ∀ (l : List Tm) (i : Nat) (t : Tm), l[i]? = some t → (flat l)[i * 2]? = some (.int .i64 t.1) ∧ (flat l)[i * 2 + 1]? = some (.int .i64 t.2)
  | [], i, t, h => by simp at h
  | x :: l, 0, t, h => by
    simp at h
    subst h
    simp [flat]
  | x :: l, i + 1, t, h => by
    rw [show (i + 1) * 2 = i * 2 + 1 + 1 by omega]
    simp at h
    simpa [flat] using flat_at l i t h
theorem flat_set : ∀ (l : List Tm) (i : Nat) (t : Tm), flat (l.set i t) = ((flat l).set (i * 2) (.int .i64 t.1)).set (i * 2 + 1) (.int .i64 t.2)
  | [], i, t => by simp [flat]
  | x :: l, 0, t => by simp [flat]
  | x :: l, i + 1, t => by
    rw [show (i + 1) * 2 = i * 2 + 1 + 1 by omega]
    simp [flat, flat_set l i t]
theorem flat_one {l : List Tm} : ∀ u ∈ flat l, u.oneCell' = true := by
  induction l with
  | nil => simp [flat]
  | cons t r ih =>
    intro u hu
    simp [flat] at hu
    rcases hu with rfl | rfl | hu
    · rfl
    · rfl
    · exact ih u hu
end Go.Proofs.Ytglgficmfpecgaa
