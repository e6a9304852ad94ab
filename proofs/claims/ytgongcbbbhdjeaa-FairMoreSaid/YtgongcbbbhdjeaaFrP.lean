
/-
  Picks, plain: places, the longest row without a worker, counts, pieces. No function of the landed code is spoken of here.
-/
import Derived.Test.YtgongcbbbhdjeaaWords
set_option linter.unusedVariables false
namespace Go.Proofs.Ytgongcbbbhdjeaa
namespace Plain

/-- How many workers there are. -/
def manyV (n : Int) : Nat := (min (max n 1) 64).toNat
theorem manyV_pos (n : Int) : 1 ≤ manyV n := by unfold manyV; omega
theorem manyV_le (n : Int) : manyV n ≤ 64 := by unfold manyV; omega
/-- The i-th of picks. -/
def gi (l : List Int) (i : Nat) : Int := l[i]?.getD 0
theorem gi_some {l : List Int} {i : Nat} (h : i < l.length) : l[i]? = some (gi l i) := by simp [gi, h]
/-- Is a pick a worker's? -/
def isW (M : Nat) (x : Int) : Bool := decide (0 ≤ x) && decide (x < (M : Int))
theorem isW_iff {M : Nat} {x : Int} : isW M x = true ↔ 0 ≤ x ∧ x < (M : Int) := by simp [isW]
/-- The places ahead of k where a pick is a worker's. -/
def placesV (l : List Int) (M k : Nat) : List Nat := (List.range k).filter fun i => isW M (gi l i)
theorem placesV_zero (l : List Int) (M : Nat) : placesV l M 0 = [] := rfl
theorem placesV_yes {l : List Int} {M k : Nat} (h : isW M (gi l k) = true) : placesV l M (k + 1) = placesV l M k ++ [k] := by
  unfold placesV
  rw [List.range_succ, List.filter_append]
  simp [h]
theorem placesV_no {l : List Int} {M k : Nat} (h : isW M (gi l k) = false) : placesV l M (k + 1) = placesV l M k := by
  unfold placesV
  rw [List.range_succ, List.filter_append]
  simp [h]
theorem placesV_mem {l : List Int} {M k i : Nat} : i ∈ placesV l M k ↔ i < k ∧ isW M (gi l i) = true := by
  unfold placesV
  rw [List.mem_filter, List.mem_range]

/-- A worker is not among n picks from a on. -/
def Miss (l : List Int) (w : Int) (a n : Nat) : Prop := ∀ j, a ≤ j → j < a + n → l[j]? ≠ some w
/-- n is the most that Q holds of. -/
def IsMost (Q : Nat → Prop) (n : Nat) : Prop := Q n ∧ ∀ m, Q m → m ≤ n
theorem IsMost.one {Q : Nat → Prop} {n m : Nat} (h : IsMost Q n) (k : IsMost Q m) : n = m := Nat.le_antisymm (k.2 _ h.1) (h.2 _ k.1)

/-- A pick is noted: where the pick behind the last one of each worker stands, and the longest row without one. -/
def lstep (l : List Int) (s : (Int → Option Nat) × Nat) (x : Nat) : (Int → Option Nat) × Nat :=
  (fun v => if v = gi l x then some (x + 1) else s.1 v, max s.2 (x - (s.1 (gi l x)).getD 0))
def lfold (l : List Int) (pre : List Nat) : (Int → Option Nat) × Nat := pre.foldl (lstep l) (fun _ => none, 0)
theorem lfold_nil (l : List Int) : lfold l [] = (fun _ => none, 0) := rfl
theorem lfold_snoc (l : List Int) (pre : List Nat) (x : Nat) : lfold l (pre ++ [x]) = lstep l (lfold l pre) x := by simp [lfold, List.foldl_append]
/-- Where the notes stand when k picks were looked at. -/
structure LInv (l : List Int) (M k : Nat) (s : (Int → Option Nat) × Nat) : Prop where
  le : ∀ w, (s.1 w).getD 0 ≤ k
  miss : ∀ w : Nat, w < M → ∀ j, (s.1 w).getD 0 ≤ j → j < k → l[j]? ≠ some (w : Int)
  last : ∀ w : Nat, w < M → (s.1 w).getD 0 = 0 ∨ l[(s.1 w).getD 0 - 1]? = some (w : Int)
  most : ∀ w : Nat, w < M → ∀ a n, a + n ≤ (s.1 w).getD 0 → Miss l w a n → n ≤ s.2
  some_ : s.2 = 0 ∨ ∃ w : Nat, w < M ∧ ∃ a, a + s.2 ≤ k ∧ Miss l w a s.2
theorem linv_of (l : List Int) (M : Nat) : ∀ k, k ≤ l.length → LInv l M k (lfold l (placesV l M k)) := by
  intro k
  induction k with
  | zero =>
    intro _
    refine ⟨fun w => by simp [placesV_zero, lfold_nil], fun w _ j _ h => by omega, fun w _ => .inl (by simp [placesV_zero, lfold_nil]), fun w _ a n h _ => ?_, .inl rfl⟩
    simp [placesV_zero, lfold_nil] at h
    omega
  | succ k ih =>
    intro hk
    have h := ih (by omega)
    have hx := gi_some (l := l) (i := k) (by omega)
    rcases hw : isW M (gi l k) with _ | _
    · rw [placesV_no hw]
      refine ⟨fun w => Nat.le_succ_of_le (h.le w), fun w hw' j h1 h2 => ?_, h.last, h.most, ?_⟩
      · rcases Nat.lt_or_ge j k with h3 | h3
        · exact h.miss w hw' j h1 h3
        · obtain rfl : j = k := by omega
          rw [hx]
          intro e
          injection e with e
          rw [e] at hw
          simp [isW] at hw
          omega
      · rcases h.some_ with h1 | ⟨w, h1, a, h2, h3⟩
        · exact .inl h1
        · exact .inr ⟨w, h1, a, by omega, h3⟩
    · rw [placesV_yes hw, lfold_snoc]
      generalize lfold l (placesV l M k) = s at h
      obtain ⟨g1, g2⟩ := isW_iff.1 hw
      obtain ⟨v, hv⟩ : ∃ v : Nat, gi l k = (v : Int) := ⟨(gi l k).toNat, by omega⟩
      have hvM : v < M := by omega
      have hle := h.le (v : Int)
      have same : ∀ w : Nat, w ≠ v → ((lstep l s k).1 (w : Int)) = s.1 (w : Int) := fun w hne => by
        unfold lstep
        simp only
        rw [if_neg (by rw [hv]; omega)]
      have self : ((lstep l s k).1 (v : Int)) = some (k + 1) := by
        unfold lstep
        simp only
        rw [if_pos hv.symm]
      have e2 : (lstep l s k).2 = max s.2 (k - (s.1 (v : Int)).getD 0) := by
        unfold lstep
        simp only
        rw [hv]
      refine ⟨fun w => ?_, fun w hw' j h1 h2 => ?_, fun w hw' => ?_, fun w hw' a n h1 h2 => ?_, ?_⟩
      · unfold lstep
        simp only
        split
        · simp
        · exact Nat.le_succ_of_le (h.le w)
      · by_cases e : w = v
        · subst e
          rw [self] at h1
          simp at h1
          omega
        · rw [same w e] at h1
          rcases Nat.lt_or_ge j k with h3 | h3
          · exact h.miss w hw' j h1 h3
          · obtain rfl : j = k := by omega
            rw [hx, hv]
            intro e'
            injection e' with e'
            omega
      · by_cases e : w = v
        · subst e
          rw [self]
          right
          simp [hx, hv]
        · rw [same w e]
          exact h.last w hw'
      · rw [e2]
        by_cases e : w = v
        · subst e
          rw [self] at h1
          simp at h1
          rcases Nat.eq_zero_or_pos n with h0 | h0
          · omega
          have hak : a + n ≤ k := by
            rcases Nat.lt_or_ge k (a + n) with h3 | h3
            · exact absurd (by rw [hx, hv]) (h2 k (by omega) (by omega))
            · exact h3
          rcases Nat.lt_or_ge ((s.1 (w : Int)).getD 0) (a + n) with h3 | h3
          · have : (s.1 (w : Int)).getD 0 ≤ a := by
              rcases Nat.lt_or_ge a ((s.1 (w : Int)).getD 0) with h4 | h4
              · rcases h.last w hvM with h5 | h5
                · omega
                · exact absurd h5 (h2 _ (by omega) (by omega))
              · exact h4
            omega
          · have := h.most w hvM a n h3 h2
            omega
        · rw [same w e] at h1
          have := h.most w hw' a n h1 h2
          omega
      · rw [e2]
        right
        rcases Nat.lt_or_ge s.2 (k - (s.1 (v : Int)).getD 0) with h3 | h3
        · rw [Nat.max_eq_right (by omega)]
          exact ⟨v, hvM, (s.1 (v : Int)).getD 0, by omega, fun j h4 h5 => h.miss v hvM j h4 (by omega)⟩
        · rw [Nat.max_eq_left h3]
          rcases h.some_ with h1 | ⟨w, h1, a, h4, h5⟩
          · rw [h1]
            exact ⟨v, hvM, 0, by omega, fun j _ h7 => by omega⟩
          · exact ⟨w, h1, a, by omega, h5⟩
/-- The longest row, workers up to m looked at behind the last pick. -/
def ltail (n : Nat) (s : (Int → Option Nat) × Nat) : Nat → Nat
  | 0 => s.2
  | m + 1 => max (ltail n s m) (n - (s.1 (m : Int)).getD 0)
def longV (l : List Int) (M : Nat) : Nat := ltail l.length (lfold l (placesV l M l.length)) M
/-- Some worker is missing in n picks side by side. -/
def MissAny (l : List Int) (M n : Nat) : Prop := ∃ w : Nat, w < M ∧ ∃ a, a + n ≤ l.length ∧ Miss l w a n
theorem longV_most (l : List Int) (M : Nat) (hM : 1 ≤ M) : IsMost (MissAny l M) (longV l M) := by
  have h := linv_of l M l.length (Nat.le_refl _)
  unfold longV
  generalize lfold l (placesV l M l.length) = s at h
  have key : ∀ m, m ≤ M → MissAny l M (ltail l.length s m) ∧ s.2 ≤ ltail l.length s m ∧ ∀ w, w < m → l.length - (s.1 (w : Int)).getD 0 ≤ ltail l.length s m := by
    intro m
    induction m with
    | zero =>
      intro _
      refine ⟨?_, Nat.le_refl _, fun w h => by omega⟩
      unfold ltail
      rcases h.some_ with h1 | ⟨w, h1, a, h2, h3⟩
      · rw [h1]
        exact ⟨0, by omega, 0, by omega, fun j _ h7 => by omega⟩
      · exact ⟨w, h1, a, h2, h3⟩
    | succ m ih =>
      intro hm
      obtain ⟨h1, h2, h3⟩ := ih (by omega)
      unfold ltail
      refine ⟨?_, by omega, fun w hw => ?_⟩
      · rcases Nat.lt_or_ge (ltail l.length s m) (l.length - (s.1 (m : Int)).getD 0) with h4 | h4
        · rw [Nat.max_eq_right (by omega)]
          exact ⟨m, by omega, (s.1 (m : Int)).getD 0, by have := h.le (m : Int); omega, fun j h5 h6 => h.miss m (by omega) j h5 (by omega)⟩
        · rw [Nat.max_eq_left h4]
          exact h1
      · rcases Nat.lt_or_ge w m with h4 | h4
        · have := h3 w h4
          omega
        · obtain rfl : w = m := by omega
          omega
  obtain ⟨k1, k2, k3⟩ := key M (Nat.le_refl _)
  refine ⟨k1, fun n ⟨w, hw, a, h1, h2⟩ => ?_⟩
  have hle := h.le (w : Int)
  rcases Nat.lt_or_ge ((s.1 (w : Int)).getD 0) (a + n) with h3 | h3
  · rcases Nat.eq_zero_or_pos n with h0 | h0
    · omega
    have : (s.1 (w : Int)).getD 0 ≤ a := by
      rcases Nat.lt_or_ge a ((s.1 (w : Int)).getD 0) with h4 | h4
      · rcases h.last w hw with h5 | h5
        · omega
        · exact absurd h5 (h2 _ (by omega) (by omega))
      · exact h4
    have := k3 w hw
    omega
  · have := h.most w hw a n h3 h2
    omega
theorem longV_le (l : List Int) (M : Nat) (hM : 1 ≤ M) : longV l M ≤ l.length := by
  obtain ⟨⟨w, _, a, h, _⟩, _⟩ := longV_most l M hM
  omega
/-- The least number within which picks are fair. -/
def leastV (l : List Int) (M : Nat) : Nat := longV l M + 1

/-- Is each worker among picks? -/
def allL (l : List Int) (M : Nat) : Bool := (List.range M).all fun w => l.contains (w : Int)
theorem allL_iff {l : List Int} {M : Nat} : allL l M = true ↔ ∀ w : Nat, w < M → (w : Int) ∈ l := by simp [allL]
/-- n picks from i on. -/
def cutL (l : List Int) (i n : Nat) : List Int := (l.drop i).take n
theorem mem_cutL {l : List Int} {i n : Nat} {w : Int} : w ∈ cutL l i n ↔ ¬ Miss l w i n := by
  unfold cutL Miss
  rw [List.mem_iff_getElem?]
  constructor
  · rintro ⟨j, hj⟩ hm
    have hlt : j < n := by
      have := (List.getElem?_eq_some_iff.1 hj).1
      simp at this
      omega
    rw [List.getElem?_take_of_lt hlt, List.getElem?_drop] at hj
    exact hm (i + j) (by omega) (by omega) hj
  · intro hm
    false_or_by_contra
    rename_i hc
    refine hm fun j h1 h2 h3 => hc ⟨j - i, ?_⟩
    rw [List.getElem?_take_of_lt (by omega), List.getElem?_drop, show i + (j - i) = j by omega]
    exact h3
theorem allL_cut {l : List Int} {M i n : Nat} : allL (cutL l i n) M = true ↔ ∀ w : Nat, w < M → ¬ Miss l w i n := by
  rw [allL_iff]
  exact ⟨fun h w hw => mem_cutL.1 (h w hw), fun h w hw => mem_cutL.2 (h w hw)⟩
/-- Are picks fair within n, from 1 on? -/
def fairV (l : List Int) (M n : Nat) : Bool := (List.range (l.length + 1 - n)).all fun i => allL (cutL l i n) M
theorem fairV_iff (l : List Int) (M n : Nat) (hn : 1 ≤ n) (hM : 1 ≤ M) : fairV l M n = decide (leastV l M ≤ n) := by
  obtain ⟨⟨w, hw, a, h1, h2⟩, hm⟩ := longV_most l M hM
  rw [Bool.eq_iff_iff]
  simp only [fairV, List.all_eq_true, List.mem_range, decide_eq_true_eq]
  constructor
  · intro h
    false_or_by_contra
    rename_i hc
    unfold leastV at hc
    have := allL_cut.1 (h a (by omega)) w hw
    exact this fun j h3 h4 => h2 j h3 (by omega)
  · intro h i hi
    refine allL_cut.2 fun v hv hmis => ?_
    have := hm n ⟨v, hv, i, by omega, hmis⟩
    unfold leastV at h
    omega
/-- Fair, of any number. -/
def fairI (l : List Int) (M : Nat) (n : Int) : Bool := if n < 1 then decide (l.length = 0) else decide ((leastV l M : Int) ≤ n)
theorem fairI_doc (l : List Int) (M : Nat) (n : Int) (hM : 1 ≤ M) : fairI l M n = if n < 1 then decide (l.length = 0) else fairV l M n.toNat := by
  unfold fairI
  split
  · rfl
  · rw [fairV_iff l M n.toNat (by omega) hM, Bool.eq_iff_iff]
    simp only [decide_eq_true_eq]
    omega

/-- How often a worker is picked. -/
def countV (l : List Int) (w : Int) : Nat := l.countP fun x => x == w
theorem countV_zero {l : List Int} {w : Int} : countV l w = 0 ↔ w ∉ l := by
  unfold countV
  rw [List.countP_eq_zero]
  constructor
  · intro h hm
    exact h w hm (by simp)
  · intro h a ha e
    simp at e
    exact h (e ▸ ha)
theorem countV_take {l : List Int} {w : Int} {k : Nat} (hk : k < l.length) : countV (l.take (k + 1)) w = countV (l.take k) w + (if gi l k = w then 1 else 0) := by
  unfold countV
  rw [List.take_add_one, gi_some hk, List.countP_append]
  simp [List.countP_cons]

/-- The longest row without a worker, as the program tells it: the longest, the one that goes on now. -/
def gapF (w : Int) : List Int → Nat × Nat → Nat × Nat
  | [], s => s
  | x :: r, s => gapF w r (if x = w then (s.1, 0) else (max s.1 (s.2 + 1), s.2 + 1))
def gapS (l : List Int) (w : Int) (k : Nat) : Nat × Nat := gapF w (l.take k) (0, 0)
theorem gapF_append (w : Int) : ∀ (l : List Int) (x : Int) (s : Nat × Nat), gapF w (l ++ [x]) s = (if x = w then ((gapF w l s).1, 0) else (max (gapF w l s).1 ((gapF w l s).2 + 1), (gapF w l s).2 + 1))
  | [], x, s => rfl
  | y :: l, x, s => by simp only [List.cons_append, gapF]; exact gapF_append w l x _
theorem gapS_succ {l : List Int} {w : Int} {k : Nat} (hk : k < l.length) : gapS l w (k + 1) = if gi l k = w then ((gapS l w k).1, 0) else (max (gapS l w k).1 ((gapS l w k).2 + 1), (gapS l w k).2 + 1) := by
  unfold gapS
  rw [List.take_add_one, gi_some hk]
  exact gapF_append w _ _ _
def gapV (l : List Int) (w : Int) : Nat := (gapS l w l.length).1
theorem gapS_le (l : List Int) (w : Int) : ∀ k, k ≤ l.length → (gapS l w k).1 ≤ k ∧ (gapS l w k).2 ≤ k := by
  intro k
  induction k with
  | zero => intro _; simp [gapS, gapF]
  | succ k ih =>
    intro hk
    have := ih (by omega)
    rw [gapS_succ (by omega)]
    split <;> simp <;> omega
theorem gapV_most (l : List Int) (w : Int) : IsMost (fun n => ∃ a, a + n ≤ l.length ∧ Miss l w a n) (gapV l w) := by
  have key : ∀ k, k ≤ l.length → (gapS l w k).2 ≤ k ∧ (gapS l w k).2 ≤ (gapS l w k).1 ∧ Miss l w (k - (gapS l w k).2) (gapS l w k).2 ∧ (k = (gapS l w k).2 ∨ l[k - (gapS l w k).2 - 1]? = some w) ∧
      (∃ a, a + (gapS l w k).1 ≤ k ∧ Miss l w a (gapS l w k).1) ∧ ∀ a n, a + n ≤ k → Miss l w a n → n ≤ (gapS l w k).1 := by
    intro k
    induction k with
    | zero =>
      intro _
      have e : gapS l w 0 = (0, 0) := by simp [gapS, gapF]
      rw [e]
      exact ⟨Nat.le_refl _, Nat.le_refl _, fun j _ _ => by omega, .inl rfl, ⟨0, by simp, fun j _ _ => by omega⟩, fun a n h _ => by simp; omega⟩
    | succ k ih =>
      intro hk
      obtain ⟨h1, h2, h3, h4, ⟨a, h5, h6⟩, h7⟩ := ih (by omega)
      have hx := gi_some (l := l) (i := k) (by omega)
      rw [gapS_succ (by omega)]
      generalize gapS l w k = s at *
      obtain ⟨g, n⟩ := s
      simp only at *
      by_cases e : gi l k = w
      · rw [if_pos e]
        refine ⟨by simp, by simp, fun j _ _ => by simp at *; omega, .inr (by simp [hx, e]), ⟨a, by simp; omega, h6⟩, fun b m h8 h9 => ?_⟩
        rcases Nat.lt_or_ge k (b + m) with h10 | h10
        · rcases Nat.eq_zero_or_pos m with h0 | h0
          · simp; omega
          · exact absurd (by rw [hx, e]) (h9 k (by omega) (by omega))
        · exact h7 b m (by omega) h9
      · rw [if_neg e]
        simp only
        have hmis : Miss l w (k + 1 - (n + 1)) (n + 1) := by
          intro j h8 h9
          rcases Nat.lt_or_ge j k with h10 | h10
          · exact h3 j (by omega) (by omega)
          · obtain rfl : j = k := by omega
            rw [hx]
            intro e'
            injection e' with e'
            exact e e'
        refine ⟨by omega, by omega, hmis, ?_, ?_, fun b m h8 h9 => ?_⟩
        · rcases h4 with h4 | h4
          · exact .inl (by omega)
          · exact .inr (by rw [show k + 1 - (n + 1) - 1 = k - n - 1 by omega]; exact h4)
        · rcases Nat.lt_or_ge g (n + 1) with h10 | h10
          · rw [Nat.max_eq_right (by omega)]
            exact ⟨_, by omega, hmis⟩
          · rw [Nat.max_eq_left h10]
            exact ⟨a, by omega, h6⟩
        · rcases Nat.lt_or_ge k (b + m) with h10 | h10
          · have : k - n ≤ b ∨ m = 0 := by
              rcases h4 with h4 | h4
              · omega
              · rcases Nat.lt_or_ge b (k - n) with h11 | h11
                · rcases Nat.eq_zero_or_pos m with h0 | h0
                  · exact .inr h0
                  · exact absurd h4 (h9 _ (by omega) (by omega))
                · exact .inl h11
            omega
          · have := h7 b m h10 h9
            omega
  obtain ⟨_, _, _, _, h5, h7⟩ := key l.length (Nat.le_refl _)
  exact ⟨h5, fun m ⟨a, h1, h2⟩ => h7 a m h1 h2⟩
end Plain
end Go.Proofs.Ytgongcbbbhdjeaa
