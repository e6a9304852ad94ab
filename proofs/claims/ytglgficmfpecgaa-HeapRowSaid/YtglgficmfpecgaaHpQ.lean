
/-
  Plain data of layer 8, more: the document's rows of timers, where each key stands, and that a heap has what the row has. No memory is spoken of here.
-/
import Derived.Test.YtglgficmfpecgaaHpP
set_option linter.unusedVariables false
namespace Go.Proofs.Ytglgficmfpecgaa
namespace Plain
/-- Where each key stands. -/
def Inv (ts : List Tm) (f : Int → Option Nat) : Prop := ∀ k i, f k = some i ↔ ∃ a, ts[i]? = some (k, a)
def upd (f : Int → Option Nat) (k : Int) (x : Option Nat) : Int → Option Nat := fun j => if j = k then x else f j
theorem Inv.at_ {ts : List Tm} {f : Int → Option Nat} (h : Inv ts f) {i : Nat} (hi : i < ts.length) : f (gt ts i).1 = some i := (h _ _).2 ⟨_, gt_some hi⟩
theorem Inv.nil : Inv [] (fun _ => none) := fun k i => by simp
theorem Inv.one {ts : List Tm} {f : Int → Option Nat} (h : Inv ts f) {i j : Nat} (hi : i < ts.length) (hj : j < ts.length) (e : (gt ts i).1 = (gt ts j).1) : i = j := by
  have a := h.at_ hi
  have b := h.at_ hj
  rw [e, b] at a
  injection a with a
  exact a.symm
theorem Inv.sw {ts : List Tm} {f : Int → Option Nat} (h : Inv ts f) {i j : Nat} (hi : i < ts.length) (hj : j < ts.length) (hij : i ≠ j) :
    Inv (sw ts i j) (upd (upd f (gt ts j).1 (some i)) (gt ts i).1 (some j)) := by
  have hne : (gt ts j).1 ≠ (gt ts i).1 := fun e => hij (h.one hi hj e.symm)
  intro k x
  have hx : (∃ a, (Plain.sw ts i j)[x]? = some (k, a)) ↔ x < ts.length ∧ (gt (Plain.sw ts i j) x).1 = k := by
    constructor
    · rintro ⟨a, ha⟩
      have hl := (List.getElem?_eq_some_iff.1 ha).1
      rw [sw_length] at hl
      exact ⟨hl, by rw [gt_of ha]⟩
    · rintro ⟨hl, he⟩
      exact ⟨(gt (Plain.sw ts i j) x).2, by rw [gt_some (by rw [sw_length]; exact hl), ← he]⟩
  have hx0 : f k = some x ↔ x < ts.length ∧ (gt ts x).1 = k := by
    rw [h k x]
    constructor
    · rintro ⟨a, ha⟩
      exact ⟨(List.getElem?_eq_some_iff.1 ha).1, by rw [gt_of ha]⟩
    · rintro ⟨hl, he⟩
      exact ⟨(gt ts x).2, by rw [gt_some hl, ← he]⟩
  rw [hx, gt_sw _ _ _ _ hi hj]
  unfold upd
  by_cases h1 : k = (gt ts i).1
  · rw [if_pos h1]
    constructor
    · intro e
      injection e with e
      subst e
      rw [if_pos rfl]
      exact ⟨hj, h1.symm⟩
    · rintro ⟨hl, he⟩
      by_cases h2 : j = x
      · rw [h2]
      · rw [if_neg h2] at he
        by_cases h3 : i = x
        · rw [if_pos h3] at he
          exact absurd (he.trans h1) hne
        · rw [if_neg h3] at he
          exact absurd (h.one hi hl (h1.symm.trans he.symm)) h3
  · rw [if_neg h1]
    by_cases h4 : k = (gt ts j).1
    · rw [if_pos h4]
      constructor
      · intro e
        injection e with e
        subst e
        rw [if_neg (fun e => hij e.symm), if_pos rfl]
        exact ⟨hi, h4.symm⟩
      · rintro ⟨hl, he⟩
        by_cases h3 : i = x
        · rw [h3]
        · by_cases h2 : j = x
          · rw [if_pos h2] at he
            exact absurd he.symm h1
          · rw [if_neg h2, if_neg h3] at he
            exact absurd (h.one hj hl (h4.symm.trans he.symm)) h2
    · rw [if_neg h4, hx0]
      by_cases h2 : j = x
      · subst h2
        rw [if_pos rfl]
        exact ⟨fun hh => absurd hh.2.symm h4, fun hh => absurd hh.2.symm h1⟩
      · by_cases h3 : i = x
        · subst h3
          rw [if_neg h2, if_pos rfl]
          exact ⟨fun hh => absurd hh.2.symm h1, fun hh => absurd hh.2.symm h4⟩
        · rw [if_neg h2, if_neg h3]
/-- A timer is put at a place: it has the place's key. -/
theorem Inv.set_same {ts : List Tm} {f : Int → Option Nat} (h : Inv ts f) {i : Nat} (hi : i < ts.length) (a : Int) {k : Int} (hk : f k = some i) : Inv (ts.set i (k, a)) (upd f k (some i)) := by
  obtain ⟨a0, h0⟩ := (h k i).1 hk
  intro j x
  unfold upd
  rw [List.getElem?_set]
  by_cases h1 : j = k
  · subst h1
    rw [if_pos rfl]
    constructor
    · intro e
      injection e with e
      subst e
      exact ⟨a, by rw [if_pos rfl, if_pos hi]⟩
    · rintro ⟨b, hb⟩
      by_cases h2 : i = x
      · rw [h2]
      · rw [if_neg h2] at hb
        have := (h j x).2 ⟨b, hb⟩
        rw [hk] at this
        exact absurd (by injection this) h2
  · rw [if_neg h1, h j x]
    by_cases h2 : i = x
    · subst h2
      rw [if_pos rfl, if_pos hi, h0]
      constructor
      · rintro ⟨b, hb⟩
        injection hb with hb
        injection hb with hb
        exact absurd hb.symm h1
      · rintro ⟨b, hb⟩
        injection hb with hb
        injection hb with hb
        exact absurd hb.symm h1
    · rw [if_neg h2]
theorem Inv.snoc {ts : List Tm} {f : Int → Option Nat} (h : Inv ts f) (k a : Int) (hk : f k = none) : Inv (ts ++ [(k, a)]) (upd f k (some ts.length)) := by
  intro j x
  unfold upd
  rcases Nat.lt_trichotomy x ts.length with hx | hx | hx
  · rw [List.getElem?_append_left hx]
    by_cases h1 : j = k
    · subst h1
      rw [if_pos rfl, ← h j x, hk]
      constructor
      · intro e
        injection e with e
        omega
      · intro e
        cases e
    · rw [if_neg h1, h j x]
  · subst hx
    rw [List.getElem?_append_right (Nat.le_refl _)]
    simp only [Nat.sub_self, List.getElem?_cons_zero, Option.some.injEq, Prod.mk.injEq]
    by_cases h1 : j = k
    · subst h1
      simp
    · rw [if_neg h1, h j _]
      constructor
      · rintro ⟨b, hb⟩
        rw [List.getElem?_eq_none (Nat.le_refl _)] at hb
        cases hb
      · rintro ⟨b, hb, _⟩
        exact absurd hb.symm h1
  · rw [List.getElem?_eq_none (by simp; omega)]
    by_cases h1 : j = k
    · subst h1
      rw [if_pos rfl]
      constructor
      · intro e
        injection e with e
        omega
      · rintro ⟨b, hb⟩
        cases hb
    · rw [if_neg h1, h j x, List.getElem?_eq_none (by omega)]
/-- The last one is cut off; its key stands nowhere. -/
theorem Inv.cut {ts : List Tm} {f : Int → Option Nat} (h : Inv ts f) {i : Nat} (hi : i + 1 = ts.length) : Inv (ts.take i) (upd f (gt ts i).1 none) := by
  intro j x
  unfold upd
  by_cases h1 : j = (gt ts i).1
  · rw [if_pos h1]
    constructor
    · intro e
      cases e
    · rintro ⟨b, hb⟩
      have hx : x < i := by
        have := (List.getElem?_eq_some_iff.1 hb).1
        simp at this
        omega
      rw [List.getElem?_take_of_lt hx] at hb
      have h2 := (h j x).2 ⟨b, hb⟩
      rw [h1, h.at_ (by omega)] at h2
      injection h2 with h2
      omega
  · rw [if_neg h1, h j x]
    rcases Nat.lt_or_ge x i with hx | hx
    · rw [List.getElem?_take_of_lt hx]
    · constructor
      · rintro ⟨b, hb⟩
        have hl := (List.getElem?_eq_some_iff.1 hb).1
        have : x = i := by omega
        subst this
        exact absurd (by rw [gt_of hb]) h1
      · rintro ⟨b, hb⟩
        rw [List.getElem?_eq_none (by simp; omega)] at hb
        cases hb
/-- The last one stands in the place of another one that is gone. -/
theorem Inv.move {ts : List Tm} {f : Int → Option Nat} (h : Inv ts f) {i p : Nat} (hp : p + 1 = ts.length) (hi : i < p) :
    Inv ((ts.take p).set i (gt ts p)) (upd (upd f (gt ts i).1 none) (gt ts p).1 (some i)) := by
  have hne : (gt ts p).1 ≠ (gt ts i).1 := fun e => by have := h.one (by omega) (by omega) e; omega
  intro j x
  unfold upd
  rw [List.getElem?_set]
  by_cases h1 : j = (gt ts p).1
  · rw [if_pos h1]
    constructor
    · intro e
      injection e with e
      subst e
      exact ⟨(gt ts p).2, by rw [if_pos rfl, if_pos (by simp; omega), h1]⟩
    · rintro ⟨b, hb⟩
      by_cases h2 : i = x
      · rw [h2]
      · rw [if_neg h2] at hb
        have hx : x < p := by
          have := (List.getElem?_eq_some_iff.1 hb).1
          simp at this
          omega
        rw [List.getElem?_take_of_lt hx] at hb
        have h3 := (h j x).2 ⟨b, hb⟩
        rw [h1, h.at_ (by omega)] at h3
        injection h3 with h3
        omega
  · rw [if_neg h1]
    by_cases h4 : j = (gt ts i).1
    · rw [if_pos h4]
      constructor
      · intro e
        cases e
      · rintro ⟨b, hb⟩
        by_cases h2 : i = x
        · rw [if_pos h2, if_pos (by simp; omega)] at hb
          injection hb with hb
          exact absurd (by rw [hb]) h1
        · rw [if_neg h2] at hb
          have hx : x < p := by
            have := (List.getElem?_eq_some_iff.1 hb).1
            simp at this
            omega
          rw [List.getElem?_take_of_lt hx] at hb
          have h3 := (h j x).2 ⟨b, hb⟩
          rw [h4, h.at_ (by omega)] at h3
          injection h3 with h3
          exact absurd h3 h2
    · rw [if_neg h4, h j x]
      by_cases h2 : i = x
      · subst h2
        rw [if_pos rfl, if_pos (by simp; omega)]
        constructor
        · rintro ⟨b, hb⟩
          exact absurd (by rw [gt_of hb]) h4
        · rintro ⟨b, hb⟩
          injection hb with hb
          exact absurd (by rw [hb]) h1
      · rw [if_neg h2]
        rcases Nat.lt_or_ge x p with hx | hx
        · rw [List.getElem?_take_of_lt hx]
        · constructor
          · rintro ⟨b, hb⟩
            have hl := (List.getElem?_eq_some_iff.1 hb).1
            have : x = p := by omega
            subst this
            exact absurd (by rw [gt_of hb]) h1
          · rintro ⟨b, hb⟩
            rw [List.getElem?_eq_none (by simp; omega)] at hb
            cases hb

def cancelR (r : List Tm) (k : Int) : List Tm := r.filter fun t => t.1 != k
def posR (l : List Tm) (t : Tm) : Nat → Nat
  | 0 => 0
  | k + 1 => if ahd t (gt l k) then posR l t k else k + 1
def insR (l : List Tm) (t : Tm) : List Tm := l.take (posR l t l.length) ++ t :: l.drop (posR l t l.length)
def setR (r : List Tm) (k a : Int) : List Tm := insR (cancelR r k) (k, a)
def dueN (r : List Tm) (now : Int) : Nat := (r.takeWhile fun t => decide (t.2 ≤ now)).length
def hasR (r : List Tm) (k : Int) : Bool := r.any fun t => t.1 == k
def atR (r : List Tm) (k : Int) : Int × Bool := match r.find? fun t => t.1 == k with | some t => (t.2, true) | none => (0, false)
theorem posR_le (l : List Tm) (t : Tm) : ∀ k, posR l t k ≤ k
  | 0 => Nat.le_refl _
  | k + 1 => by
    unfold posR
    split
    · have := posR_le l t k
      omega
    · exact Nat.le_refl _
theorem posR_after (l : List Tm) (t : Tm) : ∀ k, k ≤ l.length → ∀ j, posR l t k ≤ j → j < k → ahd t (gt l j)
  | 0, hk, j, h1, h2 => by omega
  | k + 1, hk, j, h1, h2 => by
    unfold posR at h1
    split at h1
    next ha =>
      by_cases hj : j = k
      · subst hj
        exact ha
      · exact posR_after l t k (by omega) j h1 (by omega)
    · omega
theorem posR_before (l : List Tm) (t : Tm) : ∀ k, posR l t k ≠ 0 → ¬ ahd t (gt l (posR l t k - 1))
  | 0, h => by simp [posR] at h
  | k + 1, h => by
    unfold posR at h ⊢
    split
    next ha =>
      rw [if_pos ha] at h
      exact posR_before l t k h
    next ha => exact ha
theorem insR_perm (l : List Tm) (t : Tm) : (insR l t).Perm (t :: l) := by
  unfold insR
  refine List.perm_middle.trans ?_
  rw [List.take_append_drop]
theorem insR_sorted (l : List Tm) (t : Tm) (hs : l.Pairwise ahd) (hk : ∀ x ∈ l, x.1 ≠ t.1) : (insR l t).Pairwise ahd := by
  have hg : ∀ i (hi : i < l.length), gt l i = l[i] := fun i hi => gt_of (List.getElem?_eq_getElem hi)
  have hp := posR_le l t l.length
  have htr : ∀ a b c : Tm, ahd a b → ahd b c → ahd a c := fun a b c h1 h2 => by unfold ahd at *; omega
  unfold insR
  rw [List.pairwise_append]
  refine ⟨hs.take, List.pairwise_cons.2 ⟨fun x hx => ?_, hs.drop⟩, fun x hx y hy => ?_⟩
  · obtain ⟨i, hi, he⟩ := List.getElem_of_mem hx
    rw [List.getElem_drop] at he
    rw [← he, ← hg]
    exact posR_after l t l.length (Nat.le_refl _) _ (by omega) (by simp at hi; omega)
  · have hxt : ahd x t := by
      obtain ⟨i, hi, he⟩ := List.getElem_of_mem hx
      simp at hi
      rw [List.getElem_take] at he
      have hb := posR_before l t l.length (by omega)
      have hq : posR l t l.length - 1 < l.length := by omega
      have hne := hk _ (List.getElem_mem hq)
      rw [hg _ hq] at hb
      have h1 : ahd l[posR l t l.length - 1] t := by
        unfold ahd at *
        omega
      by_cases hi2 : i = posR l t l.length - 1
      · subst hi2
        rw [← he]
        exact h1
      · have h2 := List.pairwise_iff_getElem.1 hs i (posR l t l.length - 1) (by omega) hq (by omega)
        rw [he] at h2
        exact htr _ _ _ h2 h1
    rcases List.mem_cons.1 hy with rfl | hy
    · exact hxt
    · obtain ⟨i, hi, he⟩ := List.getElem_of_mem hy
      rw [List.getElem_drop] at he
      have h2 := posR_after l t l.length (Nat.le_refl _) (posR l t l.length + i) (by omega) (by simp at hi; omega)
      rw [hg _ (by simp at hi; omega), he] at h2
      exact htr _ _ _ hxt h2

/-- A heap has what a row of timers has. -/
structure Rel (ts r : List Tm) : Prop where
  heap : Hpd ts
  perm : ts.Perm r
  sorted : r.Pairwise ahd
  keys : (r.map (·.1)).Nodup
theorem Rel.nil : Rel [] [] := ⟨fun j h1 h2 => by simp at h2, List.Perm.refl _, List.Pairwise.nil, by simp⟩
theorem root_min {ts : List Tm} (h : Hpd ts) (j : Nat) (hj : j < ts.length) : ¬ ahd (gt ts j) (gt ts 0) := by
  induction j using Nat.strongRecOn with
  | _ j ih =>
    by_cases h0 : j = 0
    · subst h0
      exact ahd_irrefl _
    · exact ahd_trans (ih ((j - 1) / 2) (by omega) (by omega)) (h j (by omega) hj)
theorem Rel.first {ts r : List Tm} (h : Rel ts r) (h0 : 0 < ts.length) : ∃ r', r = gt ts 0 :: r' := by
  have hl := h.perm.length_eq
  match r, h, hl with
  | [], _, hl => rw [hl] at h0; simp at h0
  | x :: r', h, hl =>
    refine ⟨r', ?_⟩
    have hx : x ∈ ts := h.perm.mem_iff.2 (by simp)
    have hg : gt ts 0 ∈ x :: r' := h.perm.mem_iff.1 (List.mem_of_getElem? (gt_some h0))
    obtain ⟨j, hj, he⟩ := List.getElem_of_mem hx
    have h1 := root_min h.heap j hj
    rw [gt_of (List.getElem?_eq_getElem hj), he] at h1
    rcases List.mem_cons.1 hg with e | hm
    · rw [e]
    · exact absurd ((List.pairwise_cons.1 h.sorted).1 _ hm) h1
theorem Rel.out0 {ts : List Tm} {x : Tm} {r : List Tm} (h : Rel ts (x :: r)) (n : Nat) : Rel (outV ts 0 n).1 r := by
  have h0 : 0 < ts.length := by rw [h.perm.length_eq]; simp
  obtain ⟨r', e⟩ := h.first h0
  injection e with e1 e2
  refine ⟨outV_hpd _ _ _ h.heap, ?_, (List.pairwise_cons.1 h.sorted).2, (List.nodup_cons.1 h.keys).2⟩
  have h2 := (outV_perm ts 0 n h0).trans h.perm
  rw [e1] at h2
  exact List.Perm.cons_inv h2
theorem cancelR_none {r : List Tm} {k : Int} (h : ∀ x ∈ r, x.1 ≠ k) : cancelR r k = r := by
  unfold cancelR
  rw [List.filter_eq_self]
  intro x hx
  simpa using h x hx
theorem Rel.keys' {ts r : List Tm} (h : Rel ts r) : (ts.map (·.1)).Nodup := ((h.perm.map _).nodup_iff).2 h.keys
theorem cancelR_keys {r : List Tm} {k : Int} : ∀ x ∈ cancelR r k, x.1 ≠ k := fun x hx => by
  unfold cancelR at hx
  have := (List.mem_filter.1 hx).2
  simpa using this
theorem cancelR_nodup {r : List Tm} {k : Int} (h : (r.map (·.1)).Nodup) : ((cancelR r k).map (·.1)).Nodup :=
  h.sublist (List.Sublist.map _ List.filter_sublist)
theorem Rel.cancel {ts r : List Tm} (h : Rel ts r) {i : Nat} {k a : Int} (hi : ts[i]? = some (k, a)) (n : Nat) : Rel (outV ts i n).1 (cancelR r k) := by
  have hl := (List.getElem?_eq_some_iff.1 hi).1
  have hg := gt_of hi
  have hp := outV_perm ts i n hl
  rw [hg] at hp
  refine ⟨outV_hpd _ _ _ h.heap, ?_, h.sorted.filter _, cancelR_nodup h.keys⟩
  have h2 := (hp.trans h.perm).filter (fun t => t.1 != k)
  have hn : ∀ x ∈ (outV ts i n).1, x.1 ≠ k := by
    have h3 := ((hp.map (·.1)).nodup_iff).2 h.keys'
    intro x hx e
    exact (List.nodup_cons.1 h3).1 (List.mem_map.2 ⟨x, hx, e⟩)
  have h4 : ((k, a) :: (outV ts i n).1).filter (fun t => t.1 != k) = (outV ts i n).1 := by
    rw [List.filter_cons, if_neg (by simp), List.filter_eq_self]
    intro x hx
    simpa using hn x hx
  rw [h4] at h2
  exact h2
theorem setR_keys {r : List Tm} {k a : Int} (h : (r.map (·.1)).Nodup) : ((setR r k a).map (·.1)).Nodup := by
  unfold setR
  refine (((insR_perm (cancelR r k) (k, a)).map (·.1)).nodup_iff).2 ?_
  rw [List.map_cons, List.nodup_cons]
  refine ⟨fun hm => ?_, cancelR_nodup h⟩
  obtain ⟨x, hx, e⟩ := List.mem_map.1 hm
  exact cancelR_keys x hx e
theorem Rel.set_some {ts r : List Tm} (h : Rel ts r) {i : Nat} {k a0 : Int} (hi : ts[i]? = some (k, a0)) (a : Int) (n : Nat) : Rel (settleV (ts.set i (k, a)) i n).1 (setR r k a) := by
  have hl := (List.getElem?_eq_some_iff.1 hi).1
  refine ⟨settleV_hpd _ _ _ (by simpa using hl) (mid_set h.heap hl _), ?_, insR_sorted _ _ (h.sorted.filter _) cancelR_keys, setR_keys h.keys⟩
  refine (settleV_perm _ _ _ (by simpa using hl)).trans ?_
  refine List.Perm.trans ?_ (insR_perm _ _).symm
  have h1 : ts.set i (k, a) = ts.take i ++ (k, a) :: ts.drop (i + 1) := List.set_eq_take_append_cons_drop.trans (if_pos hl)
  have h2 : ts = ts.take i ++ (k, a0) :: ts.drop (i + 1) := by
    rw [List.getElem?_eq_getElem hl] at hi
    injection hi with hi
    rw [← hi]
    simp
  rw [h1]
  refine List.perm_middle.trans (List.Perm.cons _ ?_)
  have h3 : ts.Perm ((k, a0) :: (ts.take i ++ ts.drop (i + 1))) := (List.Perm.of_eq h2).trans List.perm_middle
  have h4 := (h3.symm.trans h.perm).filter (fun t => t.1 != k)
  rw [List.filter_cons, if_neg (by simp)] at h4
  have h5 := ((h3.map (·.1)).nodup_iff).1 h.keys'
  have h6 : (ts.take i ++ ts.drop (i + 1)).filter (fun t => t.1 != k) = ts.take i ++ ts.drop (i + 1) := by
    rw [List.filter_eq_self]
    intro x hx
    have : x.1 ≠ k := fun e => (List.nodup_cons.1 h5).1 (List.mem_map.2 ⟨x, hx, e⟩)
    simpa using this
  rw [h6] at h4
  exact h4
theorem Rel.set_none {ts r : List Tm} (h : Rel ts r) {k : Int} (hk : ∀ x ∈ r, x.1 ≠ k) (a : Int) (n : Nat) : Rel (settleV (ts ++ [(k, a)]) ts.length n).1 (setR r k a) := by
  refine ⟨settleV_hpd _ _ _ (by simp) (mid_snoc h.heap _), ?_, insR_sorted _ _ (h.sorted.filter _) cancelR_keys, setR_keys h.keys⟩
  refine (settleV_perm _ _ _ (by simp)).trans ?_
  refine List.Perm.trans ?_ (insR_perm _ _).symm
  rw [cancelR_none hk]
  exact (List.perm_append_singleton _ _).trans (List.Perm.cons _ h.perm)
theorem hasR_iff {r : List Tm} {k : Int} : hasR r k = true ↔ ∃ x ∈ r, x.1 = k := by
  unfold hasR
  simp
theorem Rel.has {ts r : List Tm} (h : Rel ts r) {f : Int → Option Nat} (hv : Inv ts f) (k : Int) : hasR r k = (f k).isSome := by
  rcases hf : f k with _ | i
  · simp only [Option.isSome_none]
    rw [Bool.eq_false_iff]
    intro hh
    obtain ⟨x, hx, e⟩ := hasR_iff.1 hh
    obtain ⟨i, hi, he⟩ := List.getElem_of_mem (h.perm.mem_iff.2 hx)
    have := (hv k i).2 ⟨x.2, by rw [List.getElem?_eq_getElem hi, he, ← e]⟩
    rw [hf] at this
    cases this
  · simp only [Option.isSome_some]
    obtain ⟨a, ha⟩ := (hv k i).1 hf
    exact hasR_iff.2 ⟨(k, a), h.perm.mem_iff.1 (List.mem_of_getElem? ha), rfl⟩
theorem Rel.not_has {ts r : List Tm} (h : Rel ts r) {f : Int → Option Nat} (hv : Inv ts f) {k : Int} (hk : f k = none) : ∀ x ∈ r, x.1 ≠ k := by
  intro x hx e
  have h1 := h.has hv k
  rw [hk, hasR_iff.2 ⟨x, hx, e⟩] at h1
  cases h1
theorem find_key {r : List Tm} (hn : (r.map (·.1)).Nodup) {k a : Int} (hm : (k, a) ∈ r) : (r.find? fun t => t.1 == k) = some (k, a) := by
  induction r with
  | nil => cases hm
  | cons x r ih =>
    rw [List.map_cons, List.nodup_cons] at hn
    rcases List.mem_cons.1 hm with e | hm
    · subst e
      simp
    · have : x.1 ≠ k := fun e => hn.1 (by rw [e]; exact List.mem_map.2 ⟨_, hm, rfl⟩)
      rw [List.find?_cons_of_neg (by simpa using this)]
      exact ih hn.2 hm
theorem Rel.at_some {ts r : List Tm} (h : Rel ts r) {f : Int → Option Nat} (hv : Inv ts f) {k : Int} {i : Nat} (hk : f k = some i) : atR r k = ((gt ts i).2, true) := by
  obtain ⟨a, ha⟩ := (hv k i).1 hk
  unfold atR
  rw [find_key h.keys (h.perm.mem_iff.1 (List.mem_of_getElem? ha)), gt_of ha]
theorem Rel.at_none {ts r : List Tm} (h : Rel ts r) {f : Int → Option Nat} (hv : Inv ts f) {k : Int} (hk : f k = none) : atR r k = (0, false) := by
  unfold atR
  rw [List.find?_eq_none.2 (fun x hx => by simpa using h.not_has hv hk x hx)]
theorem cancelR_len (r : List Tm) (k : Int) : (cancelR r k).length ≤ r.length := List.length_filter_le _ _
theorem cancelR_lt (r : List Tm) (k : Int) : decide ((cancelR r k).length < r.length) = hasR r k := by
  unfold cancelR hasR
  induction r with
  | nil => simp
  | cons x r ih =>
    have h1 := List.length_filter_le (fun t : Tm => t.1 != k) r
    rw [List.filter_cons, List.any_cons]
    by_cases e : x.1 = k
    · have e2 : (x.1 != k) = false := by simpa using e
      have e3 : (x.1 == k) = true := by simpa using e
      rw [e2, if_neg (by simp), e3, Bool.true_or, List.length_cons]
      simp
      omega
    · have e2 : (x.1 != k) = true := by simpa using e
      have e3 : (x.1 == k) = false := by simpa using e
      rw [e2, if_pos rfl, e3, Bool.false_or, ← ih]
      simp
theorem setR_len (r : List Tm) (k a : Int) : (setR r k a).length = (cancelR r k).length + 1 := by
  have := (insR_perm (cancelR r k) (k, a)).length_eq
  unfold setR
  simpa using this
theorem sorted_perm_eq {l r : List Tm} (h : l.Perm r) (hl : l.Pairwise fun a b => ¬ ahd b a) (hr : r.Pairwise ahd) : l = r :=
  List.Perm.eq_of_pairwise (le := fun a b => ¬ ahd b a) (fun a b _ _ h1 h2 => ahd_antisymm h2 h1) hl (hr.imp fun h => ahd_asymm h) h
end Plain
end Go.Proofs.Ytglgficmfpecgaa
