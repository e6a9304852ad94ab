
/-
  Into how many pieces picks may be cut, plain: as soon as a piece is whole it ends; the best of all cuts is no better; no fewer than the picks have times their least. No function of the landed code is spoken of here.
-/
import Derived.Test.YtgongcbbbhdjeaaFrP
set_option linter.unusedVariables false
namespace Go.Proofs.Ytgongcbbbhdjeaa
namespace Plain
/-- Where the piece that goes on now begins, and how many have ended, of the first k picks. -/
def gsV (l : List Int) (M : Nat) : Nat → Nat × Nat
  | 0 => (0, 0)
  | k + 1 => if allL (cutL l (gsV l M k).1 (k + 1 - (gsV l M k).1)) M then (k + 1, (gsV l M k).2 + 1) else gsV l M k
def fullV (l : List Int) (M : Nat) : Nat := (gsV l M l.length).2
section
variable {l : List Int} {M : Nat}
theorem gs_yes {k : Nat} (h : allL (cutL l (gsV l M k).1 (k + 1 - (gsV l M k).1)) M = true) : gsV l M (k + 1) = (k + 1, (gsV l M k).2 + 1) := by
  rw [gsV, if_pos h]
theorem gs_no {k : Nat} (h : allL (cutL l (gsV l M k).1 (k + 1 - (gsV l M k).1)) M = false) : gsV l M (k + 1) = gsV l M k := by
  rw [gsV, if_neg (by rw [h]; simp)]
theorem gs_le : ∀ k, (gsV l M k).1 ≤ k ∧ (gsV l M k).2 ≤ k := by
  intro k
  induction k with
  | zero => simp [gsV]
  | succ k ih =>
    rcases h : allL (cutL l (gsV l M k).1 (k + 1 - (gsV l M k).1)) M with _ | _
    · rw [gs_no h]
      omega
    · rw [gs_yes h]
      simp
      omega
theorem gs_mono_one (k : Nat) : (gsV l M k).2 ≤ (gsV l M (k + 1)).2 := by
  rcases h : allL (cutL l (gsV l M k).1 (k + 1 - (gsV l M k).1)) M with _ | _
  · rw [gs_no h]
    exact Nat.le_refl _
  · rw [gs_yes h]
    simp
theorem gs_mono {i k : Nat} (h : i ≤ k) : (gsV l M i).2 ≤ (gsV l M k).2 := by
  induction k with
  | zero =>
    obtain rfl : i = 0 := by omega
    exact Nat.le_refl _
  | succ k ih =>
    rcases Nat.lt_or_ge k i with h1 | h1
    · obtain rfl : i = k + 1 := by omega
      exact Nat.le_refl _
    · exact Nat.le_trans (ih h1) (gs_mono_one k)
theorem gs_strict : ∀ k i, i < (gsV l M k).1 → (gsV l M i).2 + 1 ≤ (gsV l M k).2 := by
  intro k
  induction k with
  | zero => intro i h; simp [gsV] at h
  | succ k ih =>
    intro i hi
    rcases h : allL (cutL l (gsV l M k).1 (k + 1 - (gsV l M k).1)) M with _ | _
    · rw [gs_no h] at hi ⊢
      exact ih i hi
    · rw [gs_yes h] at hi ⊢
      simp only at hi ⊢
      have := gs_mono (l := l) (M := M) (show i ≤ k by omega)
      omega
theorem gs_start : ∀ k, (gsV l M (gsV l M k).1).2 = (gsV l M k).2 := by
  intro k
  induction k with
  | zero => simp [gsV]
  | succ k ih =>
    rcases h : allL (cutL l (gsV l M k).1 (k + 1 - (gsV l M k).1)) M with _ | _
    · rw [gs_no h]
      exact ih
    · have e := gs_yes h
      rw [e]
      simp only
      rw [e]
theorem allL_nil (hM : 1 ≤ M) : allL [] M = false := by
  rw [Bool.eq_false_iff]
  intro h
  have := allL_iff.1 h 0 (by omega)
  simp at this
theorem gs_open (hM : 1 ≤ M) : ∀ k, allL (cutL l (gsV l M k).1 (k - (gsV l M k).1)) M = false := by
  intro k
  cases k with
  | zero =>
    simp only [gsV]
    exact allL_nil hM
  | succ k =>
    rcases h : allL (cutL l (gsV l M k).1 (k + 1 - (gsV l M k).1)) M with _ | _
    · rw [gs_no h]
      exact h
    · rw [gs_yes h]
      simp only [Nat.sub_self]
      have : cutL l (k + 1) 0 = [] := by simp [cutL]
      rw [this]
      exact allL_nil hM
theorem allL_wider {i n j m : Nat} (h : allL (cutL l j m) M = true) (h1 : i ≤ j) (h2 : j + m ≤ i + n) : allL (cutL l i n) M = true := by
  rw [allL_cut] at h ⊢
  exact fun w hw hm => h w hw fun a h3 h4 => hm a (by omega) (by omega)
/-- The best of the cuts of the first k picks whose last piece begins ahead of i, by the best of shorter ones. -/
def dpV (l : List Int) (M k : Nat) : Nat → Nat
  | 0 => (gsV l M (k - 1)).2
  | i + 1 => if allL (cutL l i (k - i)) M then max (dpV l M k i) ((gsV l M i).2 + 1) else dpV l M k i
theorem dp_le {k : Nat} (hk : 1 ≤ k) : ∀ i, i ≤ k → dpV l M k i ≤ (gsV l M k).2 := by
  obtain ⟨k, rfl⟩ : ∃ j, k = j + 1 := ⟨k - 1, by omega⟩
  intro i
  induction i with
  | zero =>
    intro _
    rw [dpV, Nat.add_sub_cancel]
    exact gs_mono_one k
  | succ i ih =>
    intro hi
    have := ih (by omega)
    rw [dpV]
    by_cases ha : allL (cutL l i (k + 1 - i)) M = true
    · rw [if_pos ha]
      rcases h : allL (cutL l (gsV l M k).1 (k + 1 - (gsV l M k).1)) M with _ | _
      · rcases Nat.lt_or_ge i (gsV l M k).1 with h1 | h1
        · have h2 := gs_strict k i h1
          rw [gs_no h] at this ⊢
          omega
        · have hle := (gs_le (l := l) (M := M) k).1
          have := allL_wider (i := (gsV l M k).1) (n := k + 1 - (gsV l M k).1) ha h1 (by omega)
          rw [h] at this
          cases this
      · have h2 := gs_mono (l := l) (M := M) (show i ≤ k by omega)
        rw [gs_yes h] at this ⊢
        simp only at this ⊢
        omega
    · rw [if_neg ha]
      exact this
theorem dp_mono {k : Nat} : ∀ {i j}, i ≤ j → dpV l M k i ≤ dpV l M k j := by
  intro i j h
  induction j with
  | zero =>
    obtain rfl : i = 0 := by omega
    exact Nat.le_refl _
  | succ j ih =>
    rcases Nat.lt_or_ge j i with h1 | h1
    · obtain rfl : i = j + 1 := by omega
      exact Nat.le_refl _
    · refine Nat.le_trans (ih h1) ?_
      rw [dpV]
      split
      · omega
      · exact Nat.le_refl _
theorem dp_end {k : Nat} (hk : 1 ≤ k) : dpV l M k k = (gsV l M k).2 := by
  refine Nat.le_antisymm (dp_le hk k (Nat.le_refl _)) ?_
  obtain ⟨k, rfl⟩ : ∃ j, k = j + 1 := ⟨k - 1, by omega⟩
  rcases h : allL (cutL l (gsV l M k).1 (k + 1 - (gsV l M k).1)) M with _ | _
  · rw [gs_no h]
    have := dp_mono (l := l) (M := M) (k := k + 1) (Nat.zero_le (k + 1))
    rw [dpV, Nat.add_sub_cancel] at this
    exact this
  · have hle := (gs_le (l := l) (M := M) k).1
    have := dp_mono (l := l) (M := M) (k := k + 1) (show (gsV l M k).1 + 1 ≤ k + 1 by omega)
    rw [dpV, if_pos h, gs_start] at this
    rw [gs_yes h]
    simp only
    omega
theorem full_least (hM : 1 ≤ M) : l.length / leastV l M ≤ fullV l M := by
  have hf : fairV l M (leastV l M) = true := by
    rw [fairV_iff l M _ (by unfold leastV; omega) hM]
    simp
  have hk : 1 ≤ leastV l M := by unfold leastV; omega
  generalize leastV l M = k at hf hk
  have hw : ∀ i, i + k ≤ l.length → allL (cutL l i k) M = true := by
    intro i hi
    unfold fairV at hf
    rw [List.all_eq_true] at hf
    exact hf i (List.mem_range.2 (by omega))
  have key : ∀ j, j ≤ l.length → j < (gsV l M j).1 + k := by
    intro j hj
    have hle := (gs_le (l := l) (M := M) j).1
    false_or_by_contra
    rename_i hc
    have h1 := hw (gsV l M j).1 (by omega)
    have := allL_wider (i := (gsV l M j).1) (n := j - (gsV l M j).1) h1 (Nat.le_refl _) (by omega)
    rw [gs_open hM j] at this
    cases this
  have st : ∀ j, j ≤ l.length → (gsV l M j).1 ≤ k * (gsV l M j).2 := by
    intro j
    induction j with
    | zero => intro _; simp [gsV]
    | succ j ih =>
      intro hj
      have h1 := ih (by omega)
      have h2 := key j (by omega)
      rcases h : allL (cutL l (gsV l M j).1 (j + 1 - (gsV l M j).1)) M with _ | _
      · rw [gs_no h]
        exact h1
      · rw [gs_yes h]
        simp only
        rw [Nat.mul_add, Nat.mul_one]
        omega
  have h1 := key l.length (Nat.le_refl _)
  have h2 := st l.length (Nat.le_refl _)
  unfold fullV
  have : l.length < k * ((gsV l M l.length).2 + 1) := by
    rw [Nat.mul_add, Nat.mul_one]
    omega
  have h3 := Nat.div_lt_of_lt_mul this
  exact Nat.lt_succ_iff.1 h3
end

/-- How many of the first m numbers have an entry. -/
def cntF (f : Int → Option Nat) (m : Nat) : Nat := (List.range m).countP fun (v : Nat) => (f (v : Int)).isSome
theorem cntF_all {f : Int → Option Nat} {m : Nat} : cntF f m = m ↔ ∀ v : Nat, v < m → (f (v : Int)).isSome = true := by
  have h := List.countP_eq_length (p := fun v : Nat => (f (v : Int)).isSome) (l := List.range m)
  rw [List.length_range] at h
  unfold cntF
  rw [h]
  simp
theorem cntF_put (f : Int → Option Nat) (v e : Nat) : ∀ m, cntF (fun j => if j = (v : Int) then some e else f j) m = cntF f m + (if f (v : Int) = none ∧ v < m then 1 else 0) := by
  intro m
  induction m with
  | zero => simp [cntF]
  | succ m ih =>
    unfold cntF at ih ⊢
    rw [List.range_succ, List.countP_append, List.countP_append, ih]
    by_cases e : v = m
    · subst e
      by_cases hf : f (v : Int) = none
      · simp [hf]
      · have : (f (v : Int)).isSome = true := by
          cases h : f (v : Int) with
          | none => exact absurd h hf
          | some x => rfl
        simp [hf, this]
    · have h1 : ¬ ((m : Int) = (v : Int)) := by omega
      by_cases hf : f (v : Int) = none
      · by_cases hm : v < m
        · rw [if_pos ⟨hf, hm⟩, if_pos ⟨hf, by omega⟩]
          simp [List.countP_cons, h1]
          omega
        · rw [if_neg (by rintro ⟨_, h⟩; exact hm h), if_neg (by rintro ⟨_, h⟩; omega)]
          simp [List.countP_cons, h1]
      · rw [if_neg (by rintro ⟨h, _⟩; exact hf h), if_neg (by rintro ⟨h, _⟩; exact hf h)]
        simp [List.countP_cons, h1]
/-- Who was picked in the piece that goes on, how many they are, how many pieces have ended. -/
structure FuV where
  f : Int → Option Nat
  n : Nat
  g : Nat
def fuStep (l : List Int) (M : Nat) (s : FuV) (x : Nat) : FuV :=
  if (if s.f (gi l x) = none then s.n + 1 else s.n) = M then ⟨fun _ => none, 0, s.g + 1⟩
  else ⟨fun j => if j = gi l x then some ((s.f (gi l x)).getD 0 + 1) else s.f j, if s.f (gi l x) = none then s.n + 1 else s.n, s.g⟩
def fuFold (l : List Int) (M : Nat) (pre : List Nat) : FuV := pre.foldl (fuStep l M) ⟨fun _ => none, 0, 0⟩
theorem fuFold_snoc (l : List Int) (M : Nat) (pre : List Nat) (x : Nat) : fuFold l M (pre ++ [x]) = fuStep l M (fuFold l M pre) x := by simp [fuFold, List.foldl_append]
structure FuInv (l : List Int) (M k : Nat) (s : FuV) : Prop where
  has : ∀ v : Nat, v < M → ((s.f (v : Int)).isSome = true ↔ (v : Int) ∈ cutL l (gsV l M k).1 (k - (gsV l M k).1))
  cnt : s.n = cntF s.f M
  full : s.g = (gsV l M k).2
  le : ∀ x, (s.f x).getD 0 ≤ k
theorem mem_cut_succ {l : List Int} {s k : Nat} (hs : s ≤ k) (hk : k < l.length) {v : Int} : v ∈ cutL l s (k + 1 - s) ↔ v ∈ cutL l s (k - s) ∨ gi l k = v := by
  unfold cutL
  rw [show k + 1 - s = (k - s) + 1 by omega, List.take_add_one, List.mem_append, List.getElem?_drop, show s + (k - s) = k by omega, gi_some hk]
  simp [eq_comm]
theorem fuInv_of (l : List Int) (M : Nat) (hM : 1 ≤ M) : ∀ k, k ≤ l.length → FuInv l M k (fuFold l M (placesV l M k)) := by
  intro k
  induction k with
  | zero =>
    intro _
    refine ⟨fun v _ => ?_, ?_, rfl, fun x => by simp [placesV_zero, fuFold]⟩
    · simp [placesV_zero, fuFold, gsV, cutL]
    · simp [placesV_zero, fuFold, cntF]
  | succ k ih =>
    intro hk
    have h := ih (by omega)
    have hle := (gs_le (l := l) (M := M) k).1
    have hmem := fun v => mem_cut_succ (l := l) (v := v) hle (show k < l.length by omega)
    rcases hw : isW M (gi l k) with _ | _
    · rw [placesV_no hw]
      have hno : ∀ v : Nat, v < M → ((v : Int) ∈ cutL l (gsV l M k).1 (k + 1 - (gsV l M k).1) ↔ (v : Int) ∈ cutL l (gsV l M k).1 (k - (gsV l M k).1)) := by
        intro v hv
        rw [hmem]
        constructor
        · rintro (h1 | h1)
          · exact h1
          · rw [h1] at hw
            simp [isW] at hw
            omega
        · exact .inl
      have hcl : allL (cutL l (gsV l M k).1 (k + 1 - (gsV l M k).1)) M = false := by
        rw [Bool.eq_false_iff]
        intro ha
        have : allL (cutL l (gsV l M k).1 (k - (gsV l M k).1)) M = true := allL_iff.2 fun v hv => (hno v hv).1 (allL_iff.1 ha v hv)
        rw [gs_open hM k] at this
        cases this
      refine ⟨fun v hv => ?_, h.cnt, ?_, fun x => Nat.le_succ_of_le (h.le x)⟩
      · rw [gs_no hcl, hno v hv]
        exact h.has v hv
      · rw [gs_no hcl]
        exact h.full
    · rw [placesV_yes hw, fuFold_snoc]
      generalize fuFold l M (placesV l M k) = s at h
      obtain ⟨g1, g2⟩ := isW_iff.1 hw
      obtain ⟨v, hv⟩ : ∃ v : Nat, gi l k = (v : Int) := ⟨(gi l k).toNat, by omega⟩
      have hvM : v < M := by omega
      rw [hv] at hmem
      obtain ⟨e, he⟩ : ∃ e, e = (s.f (v : Int)).getD 0 + 1 := ⟨_, rfl⟩
      have hcnt := cntF_put s.f v e M
      have hn : (if s.f (v : Int) = none then s.n + 1 else s.n) = cntF (fun j => if j = (v : Int) then some e else s.f j) M := by
        rw [hcnt, h.cnt]
        by_cases hf : s.f (v : Int) = none
        · rw [if_pos hf, if_pos ⟨hf, hvM⟩]
        · rw [if_neg hf, if_neg (by rintro ⟨h, _⟩; exact hf h)]
          rfl
      have hhas : ∀ u : Nat, u < M → (((fun j => if j = (v : Int) then some e else s.f j) (u : Int)).isSome = true ↔ (u : Int) ∈ cutL l (gsV l M k).1 (k + 1 - (gsV l M k).1)) := by
        intro u hu
        rw [hmem]
        by_cases hc : u = v
        · subst hc
          simp
        · simp only
          rw [if_neg (by omega), h.has u hu]
          constructor
          · exact .inl
          · rintro (h1 | h1)
            · exact h1
            · omega
      have hall : (if s.f (v : Int) = none then s.n + 1 else s.n) = M ↔ allL (cutL l (gsV l M k).1 (k + 1 - (gsV l M k).1)) M = true := by
        rw [hn, cntF_all, allL_iff]
        exact ⟨fun q u hu => (hhas u hu).1 (q u hu), fun q u hu => (hhas u hu).2 (q u hu)⟩
      unfold fuStep
      rw [hv, ← he]
      by_cases hcl : allL (cutL l (gsV l M k).1 (k + 1 - (gsV l M k).1)) M = true
      · rw [if_pos (hall.2 hcl)]
        refine ⟨fun u hu => ?_, by simp [cntF], ?_, fun x => by simp⟩
        · rw [gs_yes hcl]
          simp [cutL]
        · rw [gs_yes hcl]
          simp only
          rw [h.full]
      · rw [if_neg (fun q => hcl (hall.1 q))]
        have hcl2 : allL (cutL l (gsV l M k).1 (k + 1 - (gsV l M k).1)) M = false := by simpa using hcl
        refine ⟨fun u hu => ?_, hn, ?_, fun x => ?_⟩
        · rw [gs_no hcl2]
          exact hhas u hu
        · rw [gs_no hcl2]
          exact h.full
        · simp only
          split
          · have := h.le (v : Int)
            simp
            omega
          · exact Nat.le_succ_of_le (h.le x)
end Plain
end Go.Proofs.Ytgongcbbbhdjeaa
