
/-
  Plain data of layer 8: timers, a heap of them, how it is kept in order, and how many steps that takes. No memory is spoken of here.
-/
set_option linter.unusedVariables false
namespace Go.Proofs.Ytglgficmfpecgaa
namespace Plain
abbrev Tm := Int × Int
/-- The first one comes ahead of the second. -/
def ahd (a b : Tm) : Prop := a.2 < b.2 ∨ (a.2 = b.2 ∧ a.1 < b.1)
instance (a b : Tm) : Decidable (ahd a b) := by unfold ahd; exact inferInstance
def cmpI (x y : Int) : Int := if x < y then -1 else if y < x then 1 else 0
def cmpT (a b : Tm) : Int := if cmpI a.2 b.2 ≠ 0 then cmpI a.2 b.2 else cmpI a.1 b.1
theorem cmpT_neg (a b : Tm) : cmpT a b < 0 ↔ ahd a b := by
  obtain ⟨a1, a2⟩ := a
  obtain ⟨b1, b2⟩ := b
  unfold cmpT cmpI ahd
  simp only
  repeat' split
  all_goals omega
theorem ahd_trans {a b c : Tm} (h : ¬ ahd b a) (k : ¬ ahd c b) : ¬ ahd c a := by unfold ahd at *; omega
theorem ahd_asymm {a b : Tm} (h : ahd a b) : ¬ ahd b a := by unfold ahd at *; omega
theorem ahd_irrefl (a : Tm) : ¬ ahd a a := by unfold ahd; omega
theorem ahd_antisymm {a b : Tm} (h : ¬ ahd a b) (k : ¬ ahd b a) : a = b := by
  obtain ⟨a1, a2⟩ := a
  obtain ⟨b1, b2⟩ := b
  unfold ahd at *
  simp only [Prod.mk.injEq] at *
  omega
def gt (ts : List Tm) (i : Nat) : Tm := ts.getD i (0, 0)
theorem gt_some {ts : List Tm} {i : Nat} (h : i < ts.length) : ts[i]? = some (gt ts i) := by
  unfold gt
  rw [List.getD_eq_getElem?_getD, List.getElem?_eq_getElem h]
  rfl
theorem gt_of {ts : List Tm} {i : Nat} {t : Tm} (h : ts[i]? = some t) : gt ts i = t := by
  unfold gt
  rw [List.getD_eq_getElem?_getD, h]
  rfl
theorem gt_set (ts : List Tm) (i j : Nat) (t : Tm) (h : i < ts.length) : gt (ts.set i t) j = if i = j then t else gt ts j := by
  unfold gt
  rw [List.getD_eq_getElem?_getD, List.getElem?_set, List.getD_eq_getElem?_getD]
  by_cases e : i = j
  · subst e
    rw [if_pos rfl, if_pos h, if_pos rfl]
    rfl
  · rw [if_neg e, if_neg e]
def sw (ts : List Tm) (i j : Nat) : List Tm := (ts.set i (gt ts j)).set j (gt ts i)
theorem sw_length (ts : List Tm) (i j : Nat) : (sw ts i j).length = ts.length := by simp [sw]
theorem gt_sw (ts : List Tm) (i j k : Nat) (hi : i < ts.length) (hj : j < ts.length) : gt (sw ts i j) k = if j = k then gt ts i else if i = k then gt ts j else gt ts k := by
  unfold sw
  rw [gt_set _ _ _ _ (by simpa using hj), gt_set _ _ _ _ hi]
theorem sw_perm (ts : List Tm) (i j : Nat) (hi : i < ts.length) (hj : j < ts.length) : (sw ts i j).Perm ts := by
  have h := Array.swap_perm (xs := ts.toArray) (i := i) (j := j) (by simpa using hi) (by simpa using hj)
  have h2 := h.toList
  have e : (ts.toArray.swap i j (by simpa using hi) (by simpa using hj)).toList = sw ts i j := by
    unfold sw
    rw [Array.swap_def]
    simp [gt, List.getD_eq_getElem?_getD, hi, hj]
  rw [e] at h2
  simpa using h2

/-- How the timer at a place is moved up: the timers, its place, the steps. -/
def riseV (ts : List Tm) (i n : Nat) : List Tm × Nat × Nat :=
  if h : 0 < i then
    if ahd (gt ts i) (gt ts ((i - 1) / 2)) then riseV (sw ts i ((i - 1) / 2)) ((i - 1) / 2) (n + 1) else (ts, i, n + 1)
  else (ts, i, n)
termination_by i
decreasing_by omega
def minc (ts : List Tm) (i : Nat) : Nat := if 2 * i + 2 < ts.length ∧ ahd (gt ts (2 * i + 2)) (gt ts (2 * i + 1)) then 2 * i + 2 else 2 * i + 1
def sinkN (ts : List Tm) (i n : Nat) : Nat := (if 2 * i + 2 < ts.length then n + 1 else n) + 1
theorem minc_eq (ts : List Tm) (i : Nat) : minc ts i = 2 * i + 1 ∨ minc ts i = 2 * i + 2 := by unfold minc; split <;> omega
theorem minc_lt {ts : List Tm} {i : Nat} (h : 2 * i + 1 < ts.length) : minc ts i < ts.length := by unfold minc; split <;> omega
/-- How the timer at a place is moved down: the timers, the steps. -/
def sinkV (ts : List Tm) (i n : Nat) : List Tm × Nat :=
  if 2 * i + 1 < ts.length then
    if ahd (gt ts (minc ts i)) (gt ts i) then sinkV (sw ts i (minc ts i)) (minc ts i) (sinkN ts i n) else (ts, sinkN ts i n)
  else (ts, n)
termination_by ts.length - i
decreasing_by
  rw [sw_length]
  have := minc_eq ts i
  omega
def settleV (ts : List Tm) (i n : Nat) : List Tm × Nat :=
  if (riseV ts i n).2.1 = i then sinkV (riseV ts i n).1 i (riseV ts i n).2.2 else ((riseV ts i n).1, (riseV ts i n).2.2)
def outV (ts : List Tm) (i n : Nat) : List Tm × Nat :=
  if i < ts.length - 1 then settleV ((ts.take (ts.length - 1)).set i (gt ts (ts.length - 1))) i n else (ts.take (ts.length - 1), n)

theorem riseV_perm (ts : List Tm) (i n : Nat) (hi : i < ts.length) : (riseV ts i n).1.Perm ts := by
  induction i using Nat.strongRecOn generalizing ts n with
  | _ i ih =>
    rw [riseV]
    split
    · split
      · exact (ih ((i - 1) / 2) (by omega) _ _ (by rw [sw_length]; omega)).trans (sw_perm _ _ _ hi (by omega))
      · exact List.Perm.refl _
    · exact List.Perm.refl _
theorem riseV_len (ts : List Tm) (i n : Nat) (hi : i < ts.length) : (riseV ts i n).1.length = ts.length := (riseV_perm ts i n hi).length_eq
theorem riseV_le (ts : List Tm) (i n : Nat) : (riseV ts i n).2.1 ≤ i := by
  induction i using Nat.strongRecOn generalizing ts n with
  | _ i ih =>
    rw [riseV]
    split
    · split
      · have := ih ((i - 1) / 2) (by omega) (sw ts i ((i - 1) / 2)) (n + 1)
        omega
      · exact Nat.le_refl _
    · exact Nat.le_refl _
theorem riseV_steps (ts : List Tm) (i n : Nat) : n ≤ (riseV ts i n).2.2 ∧ 2 ^ ((riseV ts i n).2.2 - n) ≤ i + 1 := by
  induction i using Nat.strongRecOn generalizing ts n with
  | _ i ih =>
    rw [riseV]
    split
    · split
      · obtain ⟨h1, h2⟩ := ih ((i - 1) / 2) (by omega) (sw ts i ((i - 1) / 2)) (n + 1)
        refine ⟨by omega, ?_⟩
        generalize (riseV (sw ts i ((i - 1) / 2)) ((i - 1) / 2) (n + 1)).2.2 = m at *
        rw [show m - n = (m - (n + 1)) + 1 by omega, Nat.pow_succ]
        omega
      · simp only
        exact ⟨by omega, by rw [show n + 1 - n = 1 by omega]; omega⟩
    · simp only
      exact ⟨Nat.le_refl _, by simp⟩
theorem sinkV_perm : ∀ (k : Nat) (ts : List Tm) (i n : Nat), ts.length - i ≤ k → (sinkV ts i n).1.Perm ts
  | 0, ts, i, n, h => by
    rw [sinkV, if_neg (by omega)]
  | k + 1, ts, i, n, h => by
    rw [sinkV]
    split
    next h1 =>
      have := minc_eq ts i
      have := minc_lt h1
      split
      · exact (sinkV_perm k _ _ _ (by rw [sw_length]; omega)).trans (sw_perm _ _ _ (by omega) (by omega))
      · exact List.Perm.refl _
    · exact List.Perm.refl _
theorem sinkN_le (ts : List Tm) (i n : Nat) : n ≤ sinkN ts i n ∧ sinkN ts i n ≤ n + 2 := by unfold sinkN; split <;> omega
/-- Two steps a level at most. -/
theorem sinkV_steps : ∀ (k : Nat) (ts : List Tm) (i n : Nat), ts.length - i ≤ k → n ≤ (sinkV ts i n).2 ∧ ∃ L, (sinkV ts i n).2 ≤ n + 2 * L ∧ (L ≠ 0 → (i + 1) * 2 ^ L ≤ ts.length)
  | 0, ts, i, n, h => by
    rw [sinkV, if_neg (by omega)]
    exact ⟨Nat.le_refl _, 0, by simp, by simp⟩
  | k + 1, ts, i, n, h => by
    rw [sinkV]
    split
    next h1 =>
      have hm := minc_eq ts i
      have hl := minc_lt h1
      have hs := sinkN_le ts i n
      split
      · obtain ⟨h3, L, h4, h5⟩ := sinkV_steps k (sw ts i (minc ts i)) (minc ts i) (sinkN ts i n) (by rw [sw_length]; omega)
        refine ⟨by omega, L + 1, by omega, fun _ => ?_⟩
        by_cases h0 : L = 0
        · subst h0
          simp
          omega
        · have h6 := h5 h0
          rw [sw_length] at h6
          have h7 : (i + 1) * 2 ^ (L + 1) ≤ (minc ts i + 1) * 2 ^ L := by
            rw [Nat.pow_succ, Nat.mul_comm (2 ^ L) 2, ← Nat.mul_assoc]
            exact Nat.mul_le_mul_right _ (by omega)
          omega
      · exact ⟨hs.1, 1, hs.2, fun _ => by omega⟩
    · exact ⟨Nat.le_refl _, 0, by simp, by simp⟩
/-- How many binary digits a number has. -/
def digV (n : Nat) : Nat := if h : n = 0 then 0 else digV (n / 2) + 1
termination_by n
decreasing_by omega
theorem digV_lt (n : Nat) : n < 2 ^ digV n := by
  induction n using Nat.strongRecOn with
  | _ n ih =>
    rw [digV]
    split
    next h => subst h; simp
    next h =>
      have := ih (n / 2) (by omega)
      rw [Nat.pow_succ]
      omega
theorem lt_digV {L n s : Nat} (h : 2 ^ L ≤ n) (hs : n ≤ s) : L < digV s := by
  have h1 := digV_lt s
  rcases Nat.lt_or_ge L (digV s) with h2 | h2
  · exact h2
  · have := Nat.pow_le_pow_right (n := 2) (by omega) h2
    omega
theorem settleV_steps (ts : List Tm) (i n s : Nat) (hi : i < ts.length) (hs : ts.length ≤ s) : n ≤ (settleV ts i n).2 ∧ (settleV ts i n).2 ≤ n + 3 * digV s := by
  obtain ⟨h1, h2⟩ := riseV_steps ts i n
  have h3 := lt_digV (s := s) h2 (by omega)
  have hd : 0 < digV s := by omega
  unfold settleV
  split
  next he =>
    have hr : (riseV ts i n).2.2 ≤ n + 1 := by
      rw [riseV] at he ⊢
      split at he
      next h0 =>
        rw [dif_pos h0]
        split at he
        · have := riseV_le (sw ts i ((i - 1) / 2)) ((i - 1) / 2) (n + 1)
          omega
        next h4 =>
          rw [if_neg h4]
          exact Nat.le_refl _
      next h0 =>
        rw [dif_neg h0]
        simp
    obtain ⟨h5, L, h6, h7⟩ := sinkV_steps _ (riseV ts i n).1 i (riseV ts i n).2.2 (Nat.le_refl _)
    refine ⟨by omega, ?_⟩
    by_cases h0 : L = 0
    · subst h0
      omega
    · have h8 := h7 h0
      rw [riseV_len _ _ _ hi] at h8
      have h9 : 2 ^ L ≤ (i + 1) * 2 ^ L := Nat.le_mul_of_pos_left _ (by omega)
      have := lt_digV (s := s) (Nat.le_trans h9 h8) hs
      omega
  · exact ⟨h1, by simp only; omega⟩

/-- Each timer but the first one stands below one that it doesn't come ahead of. -/
def Hpd (ts : List Tm) : Prop := ∀ j, 0 < j → j < ts.length → ¬ ahd (gt ts j) (gt ts ((j - 1) / 2))
/-- So but for the place i, whose timer may be any: but those below it fit the one above it. -/
def Mid (ts : List Tm) (i : Nat) : Prop := ∀ j, 0 < j → j < ts.length → (j ≠ i → (j - 1) / 2 ≠ i → ¬ ahd (gt ts j) (gt ts ((j - 1) / 2))) ∧ ((j - 1) / 2 = i → 0 < i → ¬ ahd (gt ts j) (gt ts ((i - 1) / 2)))
def UpI (ts : List Tm) (i : Nat) : Prop := ∀ j, 0 < j → j < ts.length → (j ≠ i → ¬ ahd (gt ts j) (gt ts ((j - 1) / 2))) ∧ ((j - 1) / 2 = i → 0 < i → ¬ ahd (gt ts j) (gt ts ((i - 1) / 2)))
def DownI (ts : List Tm) (i : Nat) : Prop := ∀ j, 0 < j → j < ts.length → ((j - 1) / 2 ≠ i → ¬ ahd (gt ts j) (gt ts ((j - 1) / 2))) ∧ ((j - 1) / 2 = i → 0 < i → ¬ ahd (gt ts j) (gt ts ((i - 1) / 2)))
theorem up_of_mid {ts : List Tm} {i : Nat} (h : Mid ts i) (hi : i < ts.length) (h0 : 0 < i) (ha : ahd (gt ts i) (gt ts ((i - 1) / 2))) : UpI (sw ts i ((i - 1) / 2)) ((i - 1) / 2) := by
  have hp : (i - 1) / 2 < ts.length := by omega
  have na := ahd_asymm ha
  intro j hj hl
  rw [sw_length] at hl
  rw [gt_sw _ _ _ _ hi hp, gt_sw _ _ _ _ hi hp, gt_sw _ _ _ _ hi hp]
  have hj2 := h j hj hl
  have hpp := h ((i - 1) / 2)
  refine ⟨fun hne => ?_, fun he h1 => ?_⟩
  · rw [if_neg (by omega)]
    by_cases hji : j = i
    · subst hji
      rw [if_pos rfl, if_pos rfl]
      exact na
    · rw [if_neg (fun e => hji e.symm)]
      by_cases h4 : (i - 1) / 2 = (j - 1) / 2
      · rw [if_pos h4]
        have h5 := hj2.1 hji (by omega)
        rw [← h4] at h5
        exact ahd_trans na h5
      · rw [if_neg h4]
        by_cases h6 : i = (j - 1) / 2
        · rw [if_pos h6]
          exact hj2.2 h6.symm h0
        · rw [if_neg h6]
          exact hj2.1 hji (fun e => h6 e.symm)
  · rw [if_neg (by omega)]
    have h7 := (hpp h1 hp).1 (by omega) (by omega)
    rw [if_neg (show ¬ (i - 1) / 2 = ((i - 1) / 2 - 1) / 2 by omega), if_neg (show ¬ i = ((i - 1) / 2 - 1) / 2 by omega)]
    by_cases hji : j = i
    · subst hji
      rw [if_pos rfl]
      exact h7
    · rw [if_neg (fun e => hji e.symm)]
      have h5 := hj2.1 hji (by omega)
      rw [he] at h5
      exact ahd_trans h7 h5
theorem mid_of_up {ts : List Tm} {i : Nat} (h : UpI ts i) : Mid ts i := fun j hj hl => ⟨fun h1 _ => (h j hj hl).1 h1, (h j hj hl).2⟩
theorem hpd_of_up {ts : List Tm} {i : Nat} (h : UpI ts i) (hi : i = 0 ∨ ¬ ahd (gt ts i) (gt ts ((i - 1) / 2))) : Hpd ts := by
  intro j hj hl
  by_cases hji : j = i
  · subst hji
    rcases hi with hi | hi
    · omega
    · exact hi
  · exact (h j hj hl).1 hji
theorem riseV_up (ts : List Tm) (i n : Nat) (hi : i < ts.length) (h : UpI ts i) : Hpd (riseV ts i n).1 := by
  induction i using Nat.strongRecOn generalizing ts n with
  | _ i ih =>
    rw [riseV]
    split
    next h0 =>
      split
      next ha => exact ih ((i - 1) / 2) (by omega) _ _ (by rw [sw_length]; omega) (up_of_mid (mid_of_up h) hi h0 ha)
      next ha => exact hpd_of_up h (.inr ha)
    next h0 => exact hpd_of_up h (.inl (by omega))
theorem down_of_mid {ts : List Tm} {i : Nat} (h : Mid ts i) (hi : i = 0 ∨ ¬ ahd (gt ts i) (gt ts ((i - 1) / 2))) : DownI ts i := by
  intro j hj hl
  refine ⟨fun h1 => ?_, (h j hj hl).2⟩
  by_cases hji : j = i
  · subst hji
    rcases hi with hi | hi
    · omega
    · exact hi
  · exact (h j hj hl).1 hji h1
theorem minc_min {ts : List Tm} {i j : Nat} (hj : j = 2 * i + 1 ∨ j = 2 * i + 2) (hl : j < ts.length) : ¬ ahd (gt ts j) (gt ts (minc ts i)) := by
  unfold minc
  rcases hj with rfl | rfl
  · split
    next h => exact ahd_asymm h.2
    · exact ahd_irrefl _
  · split
    · exact ahd_irrefl _
    next h => exact fun hc => h ⟨hl, hc⟩
theorem sinkV_down : ∀ (k : Nat) (ts : List Tm) (i n : Nat), ts.length - i ≤ k → DownI ts i → Hpd (sinkV ts i n).1
  | 0, ts, i, n, hk, h => by
    rw [sinkV, if_neg (by omega)]
    show Hpd ts
    intro j hj hl
    exact (h j hj hl).1 (by omega)
  | k + 1, ts, i, n, hk, h => by
    rw [sinkV]
    split
    next h1 =>
      have hm := minc_eq ts i
      have hl := minc_lt h1
      split
      next ha =>
        refine sinkV_down k _ _ _ (by rw [sw_length]; omega) ?_
        have na := ahd_asymm ha
        have hi : i < ts.length := by omega
        generalize hc : minc ts i = c at *
        intro j hj hjl
        rw [sw_length] at hjl
        rw [gt_sw _ _ _ _ hi hl, gt_sw _ _ _ _ hi hl, gt_sw _ _ _ _ hi hl]
        have hj2 := h j hj hjl
        have hcc := (h c (by omega) hl).2 (by omega)
        refine ⟨fun hne => ?_, fun he h2 => ?_⟩
        · by_cases hjc : c = j
          · subst hjc
            rw [if_pos rfl, if_neg (by omega), if_pos (by omega)]
            exact na
          · rw [if_neg hjc]
            by_cases hji : i = j
            · subst hji
              rw [if_pos rfl, if_neg (fun e => hne e.symm), if_neg (by omega)]
              exact hcc hj
            · rw [if_neg hji, if_neg (fun e => hne e.symm)]
              by_cases h6 : i = (j - 1) / 2
              · rw [if_pos h6]
                have := minc_min (ts := ts) (i := i) (j := j) (by omega) hjl
                rw [hc] at this
                exact this
              · rw [if_neg h6]
                exact hj2.1 (fun e => h6 e.symm)
        · rw [if_neg (by omega), if_neg (by omega), if_neg (by omega), if_pos (by omega)]
          have := hj2.1 (by omega)
          rw [he] at this
          exact this
      next ha =>
        intro j hj hl2
        by_cases h6 : (j - 1) / 2 = i
        · rw [h6]
          exact ahd_trans ha (minc_min (by omega) hl2)
        · exact (h j hj hl2).1 h6
    next h1 =>
      show Hpd ts
      intro j hj hl
      exact (h j hj hl).1 (by omega)
theorem riseV_at (ts : List Tm) (i n : Nat) (h : (riseV ts i n).2.1 = i) : (riseV ts i n).1 = ts ∧ (i = 0 ∨ ¬ ahd (gt ts i) (gt ts ((i - 1) / 2))) := by
  rw [riseV] at h ⊢
  split at h
  next h0 =>
    rw [dif_pos h0]
    split at h
    · have := riseV_le (sw ts i ((i - 1) / 2)) ((i - 1) / 2) (n + 1)
      omega
    next h1 =>
      rw [if_neg h1]
      exact ⟨rfl, .inr h1⟩
  next h0 =>
    rw [dif_neg h0]
    exact ⟨rfl, .inl (by omega)⟩
theorem settleV_perm (ts : List Tm) (i n : Nat) (hi : i < ts.length) : (settleV ts i n).1.Perm ts := by
  unfold settleV
  split
  · exact (sinkV_perm _ _ _ _ (Nat.le_refl _)).trans (riseV_perm _ _ _ hi)
  · exact riseV_perm _ _ _ hi
theorem settleV_hpd (ts : List Tm) (i n : Nat) (hi : i < ts.length) (h : Mid ts i) : Hpd (settleV ts i n).1 := by
  unfold settleV
  split
  next he =>
    obtain ⟨e1, e2⟩ := riseV_at ts i n he
    rw [e1]
    exact sinkV_down _ _ _ _ (Nat.le_refl _) (down_of_mid h e2)
  next he =>
    rw [riseV] at he ⊢
    split at he
    next h0 =>
      rw [dif_pos h0]
      split at he
      next ha =>
        rw [if_pos ha]
        exact riseV_up _ _ _ (by rw [sw_length]; omega) (up_of_mid h hi h0 ha)
      · exact absurd rfl he
    · exact absurd rfl he
/-- Any timer may be put at a place of a heap. -/
theorem mid_set {ts : List Tm} {i : Nat} (h : Hpd ts) (hi : i < ts.length) (t : Tm) : Mid (ts.set i t) i := by
  intro j hj hl
  rw [List.length_set] at hl
  rw [gt_set _ _ _ _ hi, gt_set _ _ _ _ hi, gt_set _ _ _ _ hi]
  refine ⟨fun h1 h2 => ?_, fun h1 h2 => ?_⟩
  · rw [if_neg (fun e => h1 e.symm), if_neg (fun e => h2 e.symm)]
    exact h j hj hl
  · rw [if_neg (by omega), if_neg (by omega)]
    have a1 := h j hj hl
    rw [h1] at a1
    exact ahd_trans (h i h2 hi) a1
theorem gt_append_left {ts : List Tm} {i : Nat} (h : i < ts.length) (l : List Tm) : gt (ts ++ l) i = gt ts i := by
  unfold gt
  rw [List.getD_eq_getElem?_getD, List.getElem?_append_left h, List.getD_eq_getElem?_getD]
theorem mid_snoc {ts : List Tm} (h : Hpd ts) (t : Tm) : Mid (ts ++ [t]) ts.length := by
  intro j hj hl
  simp at hl
  refine ⟨fun h1 h2 => ?_, fun h1 h2 => ?_⟩
  · rw [gt_append_left (by omega), gt_append_left (by omega)]
    exact h j hj (by omega)
  · omega
theorem hpd_take {ts : List Tm} (h : Hpd ts) (k : Nat) : Hpd (ts.take k) := by
  intro j hj hl
  simp at hl
  have e : ∀ i, i ≤ j → gt (ts.take k) i = gt ts i := fun i hi => by
    unfold gt
    rw [List.getD_eq_getElem?_getD, List.getElem?_take_of_lt (by omega), List.getD_eq_getElem?_getD]
  rw [e _ (by omega), e _ (by omega)]
  exact h j hj (by omega)
theorem outV_hpd (ts : List Tm) (i n : Nat) (h : Hpd ts) : Hpd (outV ts i n).1 := by
  unfold outV
  split
  · exact settleV_hpd _ _ _ (by simp; omega) (mid_set (hpd_take h _) (by simp; omega) _)
  · exact hpd_take h _
theorem set_last_perm (ts : List Tm) (i : Nat) (h : i < ts.length - 1) : (gt ts i :: (ts.take (ts.length - 1)).set i (gt ts (ts.length - 1))).Perm ts := by
  have h1 : ts = ts.take (ts.length - 1) ++ [gt ts (ts.length - 1)] := by
    have h2 := gt_some (ts := ts) (i := ts.length - 1) (by omega)
    apply List.ext_getElem?
    intro k
    rcases Nat.lt_or_ge k (ts.length - 1) with hk | hk
    · rw [List.getElem?_append_left (by simp; omega), List.getElem?_take_of_lt hk]
    · rw [List.getElem?_append_right (by simp; omega)]
      by_cases hk2 : k = ts.length - 1
      · subst hk2
        rw [h2]
        simp
      · rw [List.getElem?_eq_none (by omega), List.getElem?_eq_none (by simp; omega)]
  have hg : gt ts i = gt (ts.take (ts.length - 1)) i := by
    unfold gt
    rw [List.getD_eq_getElem?_getD, List.getD_eq_getElem?_getD, List.getElem?_take_of_lt h]
  have hl : i < (ts.take (ts.length - 1)).length := by simp; omega
  generalize gt ts (ts.length - 1) = z at *
  generalize ts.take (ts.length - 1) = l at *
  rw [hg, h1]
  have h3 : l = l.take i ++ gt l i :: l.drop (i + 1) := by
    have h4 := gt_some hl
    rw [List.getElem?_eq_getElem hl] at h4
    injection h4 with h4
    rw [← h4]
    simp
  have h5 : l.set i z = l.take i ++ z :: l.drop (i + 1) := List.set_eq_take_append_cons_drop.trans (if_pos hl)
  rw [h5]
  generalize gt l i = x at *
  generalize l.take i = p at *
  generalize l.drop (i + 1) = q at *
  rw [h3]
  refine (List.Perm.cons _ List.perm_middle).trans ?_
  refine (List.Perm.swap _ _ _).trans ?_
  refine List.Perm.trans ?_ (List.perm_append_singleton _ _).symm
  exact List.Perm.cons _ List.perm_middle.symm
theorem outV_perm (ts : List Tm) (i n : Nat) (h : i < ts.length) : (gt ts i :: (outV ts i n).1).Perm ts := by
  unfold outV
  split
  next h1 => exact (List.Perm.cons _ (settleV_perm _ _ _ (by simp; omega))).trans (set_last_perm ts i h1)
  next h1 =>
    have hi : i = ts.length - 1 := by omega
    have h2 := gt_some h
    have h3 : ts.take (ts.length - 1) ++ [gt ts i] = ts := by
      rw [List.getElem?_eq_getElem h] at h2
      injection h2 with h2
      subst hi
      rw [← h2, List.take_append_getElem]
      rw [List.take_of_length_le (by omega)]
    refine (List.perm_append_singleton _ _).symm.trans ?_
    simp only
    rw [h3]
theorem outV_steps (ts : List Tm) (i n s : Nat) (h : i < ts.length) (hs : ts.length ≤ s) : n ≤ (outV ts i n).2 ∧ (outV ts i n).2 ≤ n + 3 * digV s := by
  unfold outV
  split
  · exact settleV_steps _ _ _ _ (by simp; omega) (by simp; omega)
  · exact ⟨Nat.le_refl _, Nat.le_add_right _ _⟩
end Plain
end Go.Proofs.Ytglgficmfpecgaa
