
/-
  Rows of numbers that nobody else has, wherever they begin in their memory; three rows of such rows; an append to one of them. No function of the landed code is spoken of here.
-/
import Derived.Test.YtbgigkamlnchcaaChOpen
import Derived.ArgAppend
import Derived.Deep.RegionLaw
set_option linter.unusedVariables false
set_option linter.unusedSimpArgs false
namespace Go.Proofs.Ytbgigkamlnchcaa
open Go.RowKit Plain

/-- A row in memory that nobody else has. -/
def SlI (w : World) (B : Nat) (x : Value) (l : List Int) : Prop :=
  ∃ A c, x = .slice A l.length c ∧ l.length ≤ c ∧ (A = none → c = 0) ∧ ∀ ad, A = some ad → ∃ (b o : Nat) (cs : List Value), ad = ⟨b, o, none⟩ ∧ B ≤ b ∧ Blk w b 3 cs.toArray ∧ o + c ≤ cs.length ∧ ∀ (j : Nat) (y : Int), l[j]? = some y → cs[o + j]? = some (EnI y)
section
variable {w w' : World} {S : Nat → Prop} {B : Nat} {x : Value} {l : List Int}
theorem SlI.of_own (h : OwnI w B x l) : SlI w B x l := by
  rcases h.2 with ⟨rfl, h0⟩ | ⟨g, cap, cur, rfl, hb, hc, hnc, hcm, hcs, ht⟩
  · have : l = [] := List.eq_nil_of_length_eq_zero h0
    subst this
    exact ⟨none, 0, rfl, Nat.le_refl _, fun _ => rfl, fun ad e => by cases e⟩
  · refine ⟨_, cap, rfl, hnc, (fun e => by cases e), fun ad e => ?_⟩
    injection e with e
    subst e
    refine ⟨g, 0, cur.toList, rfl, hb, by simpa using (show Blk w g _ cur from hc), by simp [hcs], fun j y hj => ?_⟩
    have hjl := (List.getElem?_eq_some_iff.1 hj).1
    have h1 : (l.map EnI)[j]? = some (EnI y) := by simp [hj]
    rw [← ht, List.getElem?_take_of_lt (by omega)] at h1
    simpa using h1
theorem SlI.fr (h : SlI w B x l) (hf : Fr S w w') (hS : ∀ k, x.ownBlock = some k → ¬ S k) : SlI w' B x l := by
  obtain ⟨A, c, rfl, hc, hn, hA⟩ := h
  refine ⟨A, c, rfl, hc, hn, fun ad e => ?_⟩
  obtain ⟨b, o, cs, rfl, hb, hbl, ho, hcell⟩ := hA ad e
  subst e
  exact ⟨b, o, cs, rfl, hb, hf.blk hbl (hS b rfl), ho, hcell⟩
theorem SlI.lt (h : SlI w B x l) {k : Nat} (hk : x.ownBlock = some k) : B ≤ k ∧ k < w.heap.size ∧ ∃ cs, Blk w k 3 cs := by
  obtain ⟨A, c, rfl, hc, hn, hA⟩ := h
  rcases A with _ | ad
  · simp [Value.ownBlock] at hk
  · obtain ⟨b, o, cs, rfl, hb, hbl, ho, hcell⟩ := hA ad rfl
    have : b = k := by simpa [Value.ownBlock] using hk
    subst this
    exact ⟨hb, hbl.lt, _, hbl⟩
theorem SlI.base {B' : Nat} (h : SlI w B x l) (hB : B' ≤ B) : SlI w B' x l := by
  obtain ⟨A, c, e, hc, hn, hA⟩ := h
  refine ⟨A, c, e, hc, hn, fun ad e => ?_⟩
  obtain ⟨b, o, cs, e2, hb, hbl, ho, hcell⟩ := hA ad e
  exact ⟨b, o, cs, e2, by omega, hbl, ho, hcell⟩
theorem SlI.form (h : SlI w B x l) : ∃ A c, x = .slice A l.length c := by
  obtain ⟨A, c, e, _⟩ := h
  exact ⟨A, c, e⟩
theorem SlI.rn {A : Option Addr} {n c : Nat} (h : SlI w B (.slice A n c) l) : RN w (fun k => B ≤ k) A c l := by
  obtain ⟨A', c', e, hc, hn, hA⟩ := h
  injection e with e1 e2 e3
  subst e1 e3
  refine ⟨hc, fun h0 => ?_⟩
  rcases A with _ | ad
  · have := hn rfl
    omega
  · obtain ⟨b, o, cs, rfl, hb, hbl, ho, hcell⟩ := hA ad rfl
    refine ⟨_, rfl, hb, hbl.lt, fun j y hj => ?_⟩
    rw [Addr.add_lit, hbl.cell]
    simpa using hcell j y hj
/-- Without its first k. -/
theorem SlI.drop {b o n c : Nat} (h : SlI w B (.slice (some ⟨b, o, none⟩) n c) l) (k : Nat) (hk : k ≤ l.length) : SlI w B (.slice (if c = k then some ⟨b, o, none⟩ else some ⟨b, o + k, none⟩) (l.length - k) (c - k)) (l.drop k) := by
  obtain ⟨A', c', e, hc, hn, hA⟩ := h
  injection e with e1 e2 e3
  subst e1 e3
  obtain ⟨b', o', cs, e, hb, hbl, ho, hcell⟩ := hA _ rfl
  injection e with e1 e2
  subst e1 e2
  refine ⟨(if c = k then some ⟨b, o, none⟩ else some ⟨b, o + k, none⟩), c - k, by simp, by simp; omega, (fun e => by split at e <;> cases e), fun ad e => ?_⟩
  split at e
  · injection e with e
    subst e
    refine ⟨b, o, cs, rfl, hb, hbl, by omega, fun j y hj => ?_⟩
    have := (List.getElem?_eq_some_iff.1 hj).1
    simp at this
    omega
  · injection e with e
    subst e
    refine ⟨b, o + k, cs, rfl, hb, hbl, by omega, fun j y hj => ?_⟩
    rw [List.getElem?_drop] at hj
    rw [Nat.add_assoc]
    exact hcell _ y hj
end
set_option maxRecDepth 100000 in
set_option maxHeartbeats 1000000 in
theorem run_append_sl (w : World) (B : Nat) (x : Value) (l news : List Int) (h : SlI w B x l) (ty : TypeId) (ad : Addr) (m c : Nat) (hm : news.length = m)
    (hr : ∀ (j : Nat) (u : Value), (news.map EnI)[j]? = some u → w.cell? (ad.add j) = some u) (hK : l.length + m ≤ 1000000) (hB : B ≤ w.heap.size) :
    ∃ A' c' w', (Builtin.append_ #[25, 25] ty #[x, .slice (some ad) m c]).run Try.prog w = .ok (.slice A' (l.length + m) c') w' ∧ SlI w' B (.slice A' (l.length + m) c') (l ++ news) ∧ Fr (fun k => x.ownBlock = some k) w w' ∧ ∀ k, (Value.slice A' (l.length + m) c').ownBlock = some k → x.ownBlock = some k ∨ w.heap.size ≤ k := by
  obtain ⟨i0, hi0, hz0, hz1, hz2⟩ := info_parts info_int
  obtain ⟨A, c0, rfl, hc, hn, hA⟩ := h
  have hlen : (l ++ news).length = l.length + m := by simp [hm]
  have hmap : (l ++ news).map EnI = l.map EnI ++ news.map EnI := by simp
  have hfin : ∀ v' w', w'.ownsRow w.heap.size 3 1 v' (l.length + m) (l.map EnI ++ news.map EnI) → w.grownBy w' none → ∃ A' c', v' = .slice A' (l.length + m) c' ∧ SlI w' B (.slice A' (l.length + m) c') (l ++ news) ∧ Fr (fun k => (Value.slice A l.length c0).ownBlock = some k) w w' ∧ ∀ k, (Value.slice A' (l.length + m) c').ownBlock = some k → (Value.slice A l.length c0).ownBlock = some k ∨ w.heap.size ≤ k := by
    intro v' w' hown hg
    have ho : OwnI w' w.heap.size v' (l ++ news) := by
      unfold OwnI
      rw [hlen, hmap]
      exact hown
    obtain ⟨A', c', e⟩ := own_form_any hown
    subst e
    exact ⟨A', c', rfl, (SlI.of_own ho).base hB, (Fr.of_grown hg).mono (fun k _ e => by cases e), fun k hk => .inr (own_blk ho hk).1⟩
  rcases A with _ | a
  · have hc0 := hn rfl
    subst hc0
    have hl : l = [] := List.eq_nil_of_length_eq_zero (by omega)
    subst hl
    obtain ⟨v', w', hrun, h2, h3, _⟩ := run_append_own (P := Try.prog) w w.heap.size 25 ty 3 i0 _ 1 8 Try.underlying25 hi0 hz0 hz1 hz2 rfl (by decide) (.slice none 0 0) 0 [] (World.ownsRow_nil _ _ _ _) ad m c (news.map EnI) (by simp [hm]) hr (all_int9 news) (by simp at hK; unfold maxLen; omega) (by simp at hK; omega) (Nat.le_refl _)
    obtain ⟨A', c', e, h4, h5, h6⟩ := hfin v' w' (by simpa using h2) (by simpa [Value.ownBlock] using h3)
    subst e
    exact ⟨A', c', w', hrun, h4, h5, h6⟩
  · obtain ⟨b, o, cs, rfl, hb, hbl, hoc, hcell⟩ := hA a rfl
    by_cases hroom : l.length + m ≤ c0
    · have hrun := run_append_room_cells (P := Try.prog) w 25 ty 3 i0 Try.underlying25 hi0 b o l.length c0 ad m c (news.map EnI) (by simp [hm, hz1]) hr (all_int9 news) hroom (fun j hj => by
        rw [hbl.cell]
        simp [hz1] at hj ⊢
        omega) (fun j hj => hbl.frozen _)
      rw [hz1, Nat.mul_one] at hrun
      refine ⟨_, _, _, hrun, ⟨_, c0, by rw [hlen], by rw [hlen]; exact hroom, (fun e => by cases e), fun ad' e => ?_⟩, setCells_fr b _ _ w |>.mono (fun k _ e => by subst e; rfl), fun k hk => .inl hk⟩
      injection e with e
      subst e
      refine ⟨b, o, _, rfl, hb, setCells_blk b _ (news.map EnI) cs (o + l.length) w hbl (by simp [hm]; omega), by simp [hm]; omega, fun j y hj => ?_⟩
      have hj2 := (List.getElem?_eq_some_iff.1 hj).1
      rw [hlen] at hj2
      rcases Nat.lt_or_ge j l.length with hjl | hjl
      · rw [List.getElem?_append_left hjl] at hj
        rw [List.append_assoc, List.getElem?_append_left (by simp; omega), List.getElem?_take_of_lt (by omega)]
        exact hcell j y hj
      · rw [List.getElem?_append_right hjl] at hj
        rw [List.getElem?_append_left (by simp [hm]; omega), List.getElem?_append_right (by simp; omega)]
        have e : o + j - (List.take (o + l.length) cs).length = j - l.length := by
          rw [List.length_take_of_le (by omega)]
          omega
        rw [e]
        simp [hj]
    · obtain ⟨v', w', hrun, h2, h3⟩ := run_append_arg_grows (P := Try.prog) w 25 ty 3 i0 _ 1 8 Try.underlying25 hi0 hz0 hz1 hz2 rfl (by decide) ⟨b, o, none⟩ l.length c0 (l.map EnI) (by simp) (fun j u hj => by
        rw [Addr.add_lit, hbl.cell]
        rw [List.getElem?_map] at hj
        cases hy : l[j]? with
        | none => rw [hy] at hj; cases hj
        | some y =>
          rw [hy] at hj
          injection hj with hj
          subst hj
          simpa using hcell j y hy) ad m c (news.map EnI) (by simp [hm]) hr (by omega) (by unfold maxLen; omega) (by omega)
      obtain ⟨A', c', e, h4, h5, h6⟩ := hfin v' w' h2 h3
      subst e
      exact ⟨A', c', w', hrun, h4, h5, h6⟩
theorem wp_append_sl {o : Oper} {a : Act} {w : World} {K : Act → World → Prop} {Q : Exit → Act → World → Prop} (s x : Operand)
    (ho : o.op = .call { callee := .builtin .append, args := #[s, x], argTypes := #[25, 25] })
    (B : Nat) (v : Value) (l news : List Int) (hs : a.eval s = v) (h : SlI w B v l) (ad : Addr) (m c : Nat) (hx : a.eval x = .slice (some ad) m c) (hm : news.length = m)
    (hr : ∀ (j : Nat) (u : Value), (news.map EnI)[j]? = some u → w.cell? (ad.add j) = some u) (hK : l.length + m ≤ 1000000) (hB : B ≤ w.heap.size)
    (hk : ∀ A' c' w', SlI w' B (.slice A' (l.length + m) c') (l ++ news) → Fr (fun k => v.ownBlock = some k) w w' → (∀ k, (Value.slice A' (l.length + m) c').ownBlock = some k → v.ownBlock = some k ∨ w.heap.size ≤ k) → K (a.put o.dst (.slice A' (l.length + m) c')) w') : o.wp Try.prog a w K Q := by
  obtain ⟨A', c', w', hrun, h2, h3, h4⟩ := run_append_sl w B v l news h o.type ad m c hm hr hK hB
  unfold Oper.wp execOp
  simp only [ho, resolve, invoke, builtin, Sem.run_bind, Sem.run_pure, Result.andThen_ok, List.map_toArray, List.map_cons, List.map_nil, hs, hx, hrun]
  exact hk A' c' w' h2 h3 h4
theorem step_append_sl {ops : Array Oper} {o : Oper} {a : Act} {w : World} {K : Act → World → Prop} {Q : Exit → Act → World → Prop} {E : Prop} (hgd : o.guard = none) (s x : Operand)
    (ho : o.op = .call { callee := .builtin .append, args := #[s, x], argTypes := #[25, 25] })
    (B : Nat) (v : Value) (l news : List Int) (hs : a.eval s = v) (h : SlI w B v l) (ad : Addr) (m c : Nat) (hx : a.eval x = .slice (some ad) m c) (hm : news.length = m)
    (hr : ∀ (j : Nat) (u : Value), (news.map EnI)[j]? = some u → w.cell? (ad.add j) = some u) (hK : l.length + m ≤ 1000000) (hB : B ≤ w.heap.size)
    (hk : ∀ A' c' w', SlI w' B (.slice A' (l.length + m) c') (l ++ news) → Fr (fun k => v.ownBlock = some k) w w' → (∀ k, (Value.slice A' (l.length + m) c').ownBlock = some k → v.ownBlock = some k ∨ w.heap.size ≤ k) → K (a.put o.dst (.slice A' (l.length + m) c')) w') :
    if Region.wanted o (yielded ops a.tmps) = true then Oper.wp Try.prog o a w K Q else E := by
  have hw : Region.wanted o (yielded ops a.tmps) = true := by simp [Region.wanted, hgd]
  rw [if_pos hw]
  exact wp_append_sl s x ho B v l news hs h ad m c hx hm hr hK hB hk
theorem reads_one_c (w : World) (x : Int) (T : TypeId) : ∀ (j : Nat) (u : Value), ([x].map EnI)[j]? = some u → (w.alloc (.cells #[.int .i64 x] T)).cell? ((⟨w.heap.size, 0, none⟩ : Addr).add j) = some u := by
  intro j u hj
  match j, hj with
  | 0, hj => simp at hj; subst hj; simp [Addr.add]
theorem reads_two_c (w : World) (x y : Int) (T : TypeId) : ∀ (j : Nat) (u : Value), ([x, y].map EnI)[j]? = some u → (w.alloc (.cells #[.int .i64 x, .int .i64 y] T)).cell? ((⟨w.heap.size, 0, none⟩ : Addr).add j) = some u := by
  intro j u hj
  match j, hj with
  | 0, hj => simp at hj; subst hj; simp [Addr.add]
  | 1, hj => simp at hj; subst hj; simp [Addr.add]

def rw3 {α : Type} (a b c : α) : Nat → α
  | 0 => a
  | 1 => b
  | _ => c
def upq {α : Type} (L : Nat → α) (q : Nat) (x : α) : Nat → α := fun k => if k = q then x else L k
theorem upq0 {α : Type} (a b c x : α) : upq (rw3 a b c) 0 x = rw3 x b c := by
  funext k
  match k with
  | 0 => rfl
  | 1 => rfl
  | k + 2 => rfl
theorem upq1 {α : Type} (a b c x : α) : ∀ k, k < 3 → upq (rw3 a b c) 1 x k = rw3 a x c k := by
  intro k hk
  match k with
  | 0 => rfl
  | 1 => rfl
  | k + 2 => rfl
theorem upq2 {α : Type} (a b c x : α) : ∀ k, k < 3 → upq (rw3 a b c) 2 x k = rw3 a b x k := by
  intro k hk
  match k, hk with
  | 0, _ => rfl
  | 1, _ => rfl
  | 2, _ => rfl
/-- Three rows of rows, each row in memory of its own. -/
def DT (w : World) (B : Nat) (v : Nat → Value) (L : Nat → List (List Int)) : Prop :=
  ∃ vs : Nat → List Value, (∀ q, q < 3 → w.ownsRow B 25 1 (v q) (L q).length (vs q)) ∧
    (∀ (q i : Nat) (l : List Int), q < 3 → (L q)[i]? = some l → ∃ x, (vs q)[i]? = some x ∧ SlI w B x l) ∧
    (∀ (q i q' i' : Nat) (x x' : Value) (k : Nat), q < 3 → q' < 3 → (vs q)[i]? = some x → (vs q')[i']? = some x' → x.ownBlock = some k → x'.ownBlock = some k → q = q' ∧ i = i') ∧
    (∀ q q' k, q < 3 → q' < 3 → (v q).ownBlock = some k → (v q').ownBlock = some k → q = q')
section
variable {w w' : World} {S : Nat → Prop} {B : Nat} {v : Nat → Value} {L : Nat → List (List Int)}
theorem DT.congr {L' : Nat → List (List Int)} (h : DT w B v L) (e : ∀ q, q < 3 → L q = L' q) : DT w B v L' := by
  obtain ⟨vs, ho, hr, hd, he⟩ := h
  exact ⟨vs, fun q hq => by rw [← e q hq]; exact ho q hq, fun q i l hq hi => hr q i l hq (by rw [e q hq]; exact hi), hd, he⟩
theorem DT.fr (h : DT w B v L) (hf : Fr S w w') (hS : ∀ k, B ≤ k → k < w.heap.size → ¬ S k) : DT w' B v L := by
  obtain ⟨vs, ho, hr, hd, he⟩ := h
  refine ⟨vs, fun q hq => hf.own (ho q hq) (fun k hk => hS k (own_blk (ho q hq) hk).1 (own_blk (ho q hq) hk).2.1), fun q i l hq hi => ?_, hd, he⟩
  obtain ⟨x, e, hx⟩ := hr q i l hq hi
  exact ⟨x, e, hx.fr hf (fun k hk => hS k (hx.lt hk).1 (hx.lt hk).2.1)⟩
theorem own_sl_ne {n : Nat} {u x : Value} {xs : List Value} {l : List Int} (h : w.ownsRow B 25 1 u n xs) (hx : SlI w B x l) {k : Nat} (hk : x.ownBlock = some k) : u.ownBlock ≠ some k := by
  intro e
  obtain ⟨_, _, cs, h1⟩ := own_blk h e
  obtain ⟨_, _, cs2, h2⟩ := hx.lt hk
  exact h1.ne_ h2 (Ne.symm tI_ne_tS) rfl
theorem DT.at_ (h : DT w B v L) (hB : B ≤ w.heap.size) {q i : Nat} (hq : q < 3) (hi : i < (L q).length) : ∃ b cap A c, v q = .slice (some ⟨b, 0, none⟩) (L q).length cap ∧ (L q).length ≤ cap ∧ B ≤ b ∧ b < w.heap.size ∧
    w.cell? ⟨b, i, none⟩ = some (.slice A (gl (L q) i).length c) ∧ (∀ j, w.frozen? ⟨b, j, none⟩ = false) ∧ SlI w B (.slice A (gl (L q) i).length c) (gl (L q) i) ∧
    ∀ (w2 : World) (A' : Option Addr) (n' c' : Nat) (l' : List Int), l'.length = n' → Fr (fun k => (Value.slice A (gl (L q) i).length c).ownBlock = some k) w w2 → SlI w2 B (.slice A' n' c') l' → (∀ k, (Value.slice A' n' c').ownBlock = some k → (Value.slice A (gl (L q) i).length c).ownBlock = some k ∨ w.heap.size ≤ k) →
      w2.cell? ⟨b, i, none⟩ = some (.slice A (gl (L q) i).length c) ∧ w2.frozen? ⟨b, i, none⟩ = false ∧ DT (w2.setCell ⟨b, i, none⟩ (.slice A' n' c')) B v (upq L q ((L q).set i l')) ∧ Fr (fun k => B ≤ k) w (w2.setCell ⟨b, i, none⟩ (.slice A' n' c')) := by
  obtain ⟨vs, ho, hr, hd, he⟩ := h
  obtain ⟨b, cap, cs, e, hc, hb, hbl, hob, hblk, hcl, ht⟩ := own_form (ho q hq) (by omega)
  obtain ⟨x, ex, hx⟩ := hr q i _ hq (gl_some hi)
  obtain ⟨A, c, e2⟩ := hx.form
  subst e2
  have hcell : w.cell? ⟨b, i, none⟩ = some (.slice A (gl (L q) i).length c) := by
    rw [hblk.cell]
    rw [← ht, List.getElem?_take_of_lt hi] at ex
    simpa using ex
  refine ⟨b, cap, A, c, e, hc, hb, hbl, hcell, fun j => hblk.frozen j, hx, fun w2 A' n' c' l' hn' hf hx' hk' => ?_⟩
  subst hn'
  have hxb : ∀ k, (Value.slice A (gl (L q) i).length c).ownBlock = some k → b ≠ k := fun k hk e => own_sl_ne (ho q hq) hx hk (by rw [hob, e])
  have hblk2 := hf.blk hblk (fun e => hxb b e rfl)
  have hcl2 : w2.cell? ⟨b, i, none⟩ = some (.slice A (gl (L q) i).length c) := by
    rw [hblk2.cell, ← hblk.cell]
    exact hcell
  have hfs := fr_set w2 b i (.slice A' l'.length c')
  have ho2 : ∀ q', q' < 3 → w2.ownsRow B 25 1 (v q') (L q').length (vs q') := fun q' hq' => hf.own (ho q' hq') (fun k hk e => own_sl_ne (ho q' hq') hx e hk)
  refine ⟨hcl2, hblk2.frozen i, ⟨upq vs q ((vs q).set i (.slice A' l'.length c')), fun q' hq' => ?_, fun q' j l hq' hj => ?_, ?_, he⟩, ?_⟩
  · unfold upq
    by_cases hqq : q' = q
    · subst hqq
      rw [if_pos rfl, if_pos rfl, List.length_set]
      have h3 := ho2 q' hq'
      rw [e] at h3 ⊢
      exact own_set h3 i _
    · rw [if_neg hqq, if_neg hqq]
      exact own_set_far (ho2 q' hq') (p := ⟨b, i, none⟩) (fun e => hqq (he q' q b hq' hq e hob)) _
  · unfold upq at hj ⊢
    have hset : ∀ {y : Value} {l : List Int}, SlI w2 B y l → SlI (w2.setCell ⟨b, i, none⟩ (.slice A' l'.length c')) B y l := fun {y l} hy => hy.fr hfs (fun k hk e => by
      subst e
      have h3 := ho2 q hq
      exact own_sl_ne h3 hy hk hob)
    by_cases hqq : q' = q
    · subst hqq
      rw [if_pos rfl] at hj ⊢
      by_cases hij : i = j
      · subst hij
        rw [List.getElem?_set_self hi] at hj
        injection hj with hj
        subst hj
        exact ⟨_, List.getElem?_set_self (List.getElem?_eq_some_iff.1 ex).1, hset hx'⟩
      · rw [List.getElem?_set_ne hij] at hj
        obtain ⟨y, ey, hy⟩ := hr q' j l hq' hj
        exact ⟨y, by rw [List.getElem?_set_ne hij]; exact ey, hset (hy.fr hf (fun k hk e => hij (hd q' i q' j _ _ k hq' hq' ex ey e hk).2))⟩
    · rw [if_neg hqq] at hj ⊢
      obtain ⟨y, ey, hy⟩ := hr q' j l hq' hj
      exact ⟨y, ey, hset (hy.fr hf (fun k hk e => hqq (hd q i q' j _ _ k hq hq' ex ey e hk).1.symm))⟩
  · have hcase : ∀ (q' j : Nat) (y : Value), q' < 3 → (upq vs q ((vs q).set i (.slice A' l'.length c')) q')[j]? = some y → (q' = q ∧ j = i ∧ y = .slice A' l'.length c') ∨ (¬ (q' = q ∧ j = i) ∧ (vs q')[j]? = some y) := by
      intro q' j y hq' hj
      unfold upq at hj
      by_cases hqq : q' = q
      · subst hqq
        rw [if_pos rfl] at hj
        by_cases hij : i = j
        · subst hij
          rw [List.getElem?_set_self (List.getElem?_eq_some_iff.1 ex).1] at hj
          injection hj with hj
          exact .inl ⟨rfl, rfl, hj.symm⟩
        · rw [List.getElem?_set_ne hij] at hj
          exact .inr ⟨fun e => hij e.2.symm, hj⟩
      · rw [if_neg hqq] at hj
        exact .inr ⟨fun e => hqq e.1, hj⟩
    have hold : ∀ (q' j : Nat) (y : Value) (k : Nat), q' < 3 → (vs q')[j]? = some y → y.ownBlock = some k → k < w.heap.size := by
      intro q' j y k hq' hj hk
      have hj2 : j < (L q').length := by
        have h1 := (ho q' hq').1
        have h2 := (List.getElem?_eq_some_iff.1 hj).1
        omega
      obtain ⟨y', ey, hy⟩ := hr q' j _ hq' (gl_some hj2)
      rw [hj] at ey
      injection ey with ey
      subst ey
      exact (hy.lt hk).2.1
    intro q1 i1 q2 i2 y1 y2 k h1 h2 e1 e2 k1 k2
    rcases hcase q1 i1 y1 h1 e1 with ⟨a1, a2, a3⟩ | ⟨a1, a2⟩ <;> rcases hcase q2 i2 y2 h2 e2 with ⟨b1, b2, b3⟩ | ⟨b1, b2⟩
    · exact ⟨a1.trans b1.symm, a2.trans b2.symm⟩
    · exfalso
      subst a3
      rcases hk' k k1 with e | e
      · obtain ⟨c1, c2⟩ := hd q i q2 i2 _ _ k hq h2 ex b2 e k2
        exact b1 ⟨c1.symm, c2.symm⟩
      · have := hold q2 i2 y2 k h2 b2 k2
        omega
    · exfalso
      subst b3
      rcases hk' k k2 with e | e
      · obtain ⟨c1, c2⟩ := hd q1 i1 q i _ _ k h1 hq a2 ex k1 e
        exact a1 ⟨c1, c2⟩
      · have := hold q1 i1 y1 k h1 a2 k1
        omega
    · exact hd q1 i1 q2 i2 y1 y2 k h1 h2 a2 b2 k1 k2
  · refine (hf.mono (S := fun k => B ≤ k) (fun k _ hk => (hx.lt hk).1)).trans (hfs.mono (S := fun k => B ≤ k) (fun k _ e => by subst e; exact hb)) (fun _ _ h => h)
theorem DT.rns (h : DT w B v L) {q n c : Nat} {A : Option Addr} (hq : q < 3) (e : v q = .slice A n c) : RNs w (fun k => B ≤ k) A c (L q) := by
  obtain ⟨vs, ho, hr, hd, he⟩ := h
  have h1 := ho q hq
  have hos : OwnS w B (fun k => B ≤ k) (.slice A n c) (L q) := by
    rw [e] at h1
    refine ⟨vs q, h1, fun i l hi => ?_⟩
    obtain ⟨x, ex, hx⟩ := hr q i l hq hi
    obtain ⟨A2, c2, e2⟩ := hx.form
    subst e2
    exact ⟨A2, c2, ex, hx.rn⟩
  rw [e] at h1
  exact hos.rns (fun k hk => (own_blk h1 hk).1)
end
/-- A state of the document's whose rows are its own. -/
structure DO (w : World) (B : Nat) (z : ChZ) (n : Nat) (s : Ck) : Prop where
  l1 : s.bf.length = n
  l2 : s.sq.length = n
  l3 : s.rq.length = n
  t : DT w B (rw3 (.slice z.A1 n z.d1) (.slice z.A2 n z.d2) (.slice z.A3 n z.d3)) (rw3 s.bf s.sq s.rq)
section
variable {w w' : World} {S : Nat → Prop} {B n : Nat} {z : ChZ} {s : Ck}
theorem DO.fr (h : DO w B z n s) (hf : Fr S w w') (hS : ∀ k, B ≤ k → k < w.heap.size → ¬ S k) : DO w' B z n s := ⟨h.l1, h.l2, h.l3, h.t.fr hf hS⟩
theorem DO.doc (h : DO w B z n s) : DocC w (fun k => B ≤ k) z n s :=
  ⟨h.l1, h.l2, h.l3, h.t.rns (q := 0) (by omega) rfl, h.t.rns (q := 1) (by omega) rfl, h.t.rns (q := 2) (by omega) rfl⟩
end
end Go.Proofs.Ytbgigkamlnchcaa
