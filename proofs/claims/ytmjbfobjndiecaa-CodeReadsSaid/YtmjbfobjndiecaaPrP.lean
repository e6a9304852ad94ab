
/-
  Programs as plain data: which may be, what is made of any, their bytes. Nothing of the landed code is spoken of here.
-/
import Derived.Below
namespace Go.Proofs.Ytmjbfobjndiecaa.Plain

/-- An instruction. -/
structure IV where
  op : Int
  a : Int
deriving DecidableEq
/-- A function. -/
structure FV where
  locals : Int
  code : List IV
deriving DecidableEq
/-- A program. -/
structure PV where
  funcs : List FV
  mutexes : Int
  conds : List Int
  semas : List Int
  chans : List Int
  choices : List (List Int)
  threads : Int
deriving DecidableEq

/-- n, or its distance from -1, modulo m. -/
def around (n m : Int) : Int := (if n < 0 then -(n + 1) else n) % m
theorem around_bd (n m : Int) (h : 0 < m) : 0 ≤ around n m ∧ around n m < m := ⟨Int.emod_nonneg _ (by omega), Int.emod_lt_of_pos _ h⟩

def things (l : List Int) (to : Int) : List Int := if to < 0 then [] else (l.take 4).map (around · (to + 1))
def dedup : List Int → List Int → List Int
  | acc, [] => acc
  | acc, x :: r => dedup (if acc.contains x then acc else acc ++ [x]) r

def asks (op : Int) : Bool := op == 0 || (decide (5 ≤ op) && decide (op ≤ 9)) || op == 11 || (decide (15 ≤ op) && decide (op ≤ 24))

/-- What of a program and a function an instruction's number hangs on. -/
def most (p : PV) (f : FV) (op : Int) : Int :=
  if op = 0 then 1073741825
  else if op = 5 ∨ op = 6 then f.locals
  else if op = 7 ∨ op = 8 then f.code.length + 1
  else if op = 9 ∨ op = 11 then p.funcs.length
  else if op = 15 ∨ op = 16 then p.mutexes
  else if op = 17 ∨ op = 18 ∨ op = 19 then p.conds.length
  else if op = 20 ∨ op = 21 then p.semas.length
  else if op = 22 ∨ op = 23 then p.chans.length
  else if op = 24 then p.choices.length
  else 0

def instrOf (p : PV) (f : FV) (i : IV) : IV :=
  let op := around i.op 27
  if asks op = false then ⟨op, 0⟩
  else if most p f op = 0 then ⟨12, 0⟩
  else if op = 0 then ⟨0, i.a.tmod 1000⟩
  else ⟨op, around i.a (most p f op)⟩

def funcs0 (l : List FV) : List FV := if l = [] then [⟨0, []⟩] else (l.take 4).map fun f => ⟨around f.locals 4, f.code.take 24⟩
def choices0 (l : List (List Int)) (n : Int) : List (List Int) := ((l.take 4).map fun c => dedup [] (things c (n - 1))).filter (fun c => !c.isEmpty)

/-- What is made of any program, ahead of its instructions. -/
def good0 (p : PV) : PV :=
  let m := around p.mutexes 4
  let ch := things p.chans 3
  { funcs := funcs0 p.funcs, mutexes := m, conds := things p.conds (m - 1), semas := things p.semas 3, chans := ch, choices := choices0 p.choices ch.length, threads := 1 + around p.threads 8 }
def good (p : PV) : PV := { good0 p with funcs := (good0 p).funcs.map fun f => { f with code := f.code.map (instrOf (good0 p) f) } }

def allB (l : List Int) (to : Int) : Bool := l.all fun x => decide (0 ≤ x) && decide (x ≤ to)
def nodupB : List Int → Bool
  | [] => true
  | x :: r => !r.contains x && nodupB r
def choiceB (n : Int) (l : List Int) : Bool := allB l (n - 1) && nodupB l && decide (1 ≤ l.length) && decide (l.length ≤ 8)
def instrB (p : PV) (f : FV) (i : IV) : Bool :=
  decide (0 ≤ i.op) && decide (i.op ≤ 26) &&
    (if asks i.op then (if i.op = 0 ∧ i.a < 0 then decide (-1073741824 ≤ i.a) else decide (0 ≤ i.a) && decide (i.a < most p f i.op)) else i.a == 0)
def funcB (p : PV) (f : FV) : Bool := decide (0 ≤ f.locals) && decide (f.locals ≤ 8) && decide (f.code.length ≤ 64) && f.code.all (instrB p f)
def headB (p : PV) : Bool :=
  decide (1 ≤ p.funcs.length) && decide (p.funcs.length ≤ 16) && decide (0 ≤ p.mutexes) && decide (p.mutexes ≤ 8) && decide (p.conds.length ≤ 8) && decide (p.semas.length ≤ 8) && decide (p.chans.length ≤ 8) && decide (p.choices.length ≤ 8) && decide (1 ≤ p.threads) && decide (p.threads ≤ 32)
def mayB (p : PV) : Bool :=
  headB p && (allB p.conds (p.mutexes - 1) && allB p.semas 100 && allB p.chans 8) && p.choices.all (choiceB p.chans.length) && p.funcs.all (funcB p)

/-! ### What is made of any may be -/

theorem things_len (l : List Int) (to : Int) : (things l to).length ≤ 4 := by
  unfold things; split <;> simp; omega
theorem things_bd (l : List Int) (to : Int) : ∀ x ∈ things l to, 0 ≤ x ∧ x ≤ to := by
  intro x hx
  unfold things at hx
  split at hx
  · simp at hx
  · obtain ⟨y, _, rfl⟩ := List.mem_map.1 hx
    have := around_bd y (to + 1) (by omega)
    omega
theorem things_all (l : List Int) (to to' : Int) (h : to ≤ to') : allB (things l to) to' = true := by
  simp only [allB, List.all_eq_true, Bool.and_eq_true, decide_eq_true_eq]
  intro x hx
  have := things_bd l to x hx
  omega
theorem dedup_mem (xs : List Int) : ∀ acc, ∀ x ∈ dedup acc xs, x ∈ acc ∨ x ∈ xs := by
  induction xs with
  | nil => intro acc x hx; exact .inl hx
  | cons y r ih =>
    intro acc x hx
    rcases ih _ x hx with h | h
    · split at h
      · exact .inl h
      · rcases List.mem_append.1 h with h | h
        · exact .inl h
        · simp at h; exact .inr (by simp [h])
    · exact .inr (List.mem_cons_of_mem _ h)
theorem nodupB_snoc (l : List Int) (x : Int) (h : nodupB l = true) (hx : l.contains x = false) : nodupB (l ++ [x]) = true := by
  induction l with
  | nil => simp [nodupB]
  | cons y r ih =>
    simp only [nodupB, List.cons_append, Bool.and_eq_true, Bool.not_eq_true', List.contains_cons, Bool.or_eq_false_iff] at h hx ⊢
    refine ⟨?_, ih h.2 hx.2⟩
    rw [← Bool.not_eq_true, List.contains_iff_mem] at h ⊢
    have h1 := hx.1
    simp at h1
    simp only [List.mem_append, List.mem_singleton, not_or]
    exact ⟨h.1, fun e => h1 e.symm⟩
theorem dedup_nodup (xs : List Int) : ∀ acc, nodupB acc = true → nodupB (dedup acc xs) = true := by
  induction xs with
  | nil => intro acc h; exact h
  | cons y r ih =>
    intro acc h
    refine ih _ ?_
    split
    · exact h
    · rename_i hn
      exact nodupB_snoc acc y h (by simpa using hn)
theorem dedup_len (xs : List Int) : ∀ acc, (dedup acc xs).length ≤ acc.length + xs.length := by
  induction xs with
  | nil => intro acc; simp [dedup]
  | cons y r ih =>
    intro acc
    have := ih (if acc.contains y then acc else acc ++ [y])
    simp only [dedup, List.length_cons]
    split at this <;> rename_i h
    · rw [if_pos h]; omega
    · rw [if_neg h]; simp at this; omega
theorem choice_good (l : List Int) (n : Int) (h : (dedup [] (things l (n - 1))).isEmpty = false) : choiceB n (dedup [] (things l (n - 1))) = true := by
  have h1 := dedup_len (things l (n - 1)) []
  have h2 := things_len l (n - 1)
  have h3 := dedup_nodup (things l (n - 1)) [] rfl
  have h4 : 1 ≤ (dedup [] (things l (n - 1))).length := by
    rcases hd : dedup [] (things l (n - 1)) with _ | ⟨x, r⟩
    · rw [hd] at h; simp at h
    · simp
  simp only [choiceB, allB, Bool.and_eq_true, decide_eq_true_eq, List.all_eq_true]
  refine ⟨⟨⟨fun x hx => ?_, h3⟩, h4⟩, by simp at h1; omega⟩
  rcases dedup_mem _ _ x hx with h | h
  · simp at h
  · exact things_bd l (n - 1) x h
theorem choices_good (l : List (List Int)) (n : Int) : (choices0 l n).all (choiceB n) = true ∧ (choices0 l n).length ≤ 4 := by
  constructor
  · simp only [List.all_eq_true]
    intro c hc
    unfold choices0 at hc
    obtain ⟨h1, h2⟩ := List.mem_filter.1 hc
    obtain ⟨x, _, rfl⟩ := List.mem_map.1 h1
    exact choice_good x n (by simpa using h2)
  · unfold choices0
    refine Nat.le_trans (List.length_filter_le _ _) ?_
    simp; omega
theorem funcs0_bd (l : List FV) : 1 ≤ (funcs0 l).length ∧ (funcs0 l).length ≤ 4 ∧ ∀ f ∈ funcs0 l, 0 ≤ f.locals ∧ f.locals ≤ 3 ∧ f.code.length ≤ 24 := by
  unfold funcs0
  split
  · refine ⟨by simp, by simp, fun f hf => ?_⟩
    simp at hf; subst hf; simp
  · rename_i h
    refine ⟨?_, by simp; omega, fun f hf => ?_⟩
    · have : 0 < l.length := List.length_pos_iff.2 h
      simp; omega
    · obtain ⟨g, _, rfl⟩ := List.mem_map.1 hf
      have := around_bd g.locals 4 (by omega)
      simp; omega

theorem around_27 (n : Int) : 0 ≤ around n 27 ∧ around n 27 ≤ 26 := by have := around_bd n 27 (by omega); omega
theorem most_head (p q : PV) (f g : FV) (op : Int) (h1 : p.funcs.length = q.funcs.length) (h2 : p.mutexes = q.mutexes) (h3 : p.conds.length = q.conds.length) (h4 : p.semas.length = q.semas.length)
    (h5 : p.chans.length = q.chans.length) (h6 : p.choices.length = q.choices.length) (h7 : f.locals = g.locals) (h8 : f.code.length = g.code.length) : most p f op = most q g op := by
  unfold most; rw [h1, h2, h3, h4, h5, h6, h7, h8]
theorem most_nonneg (p : PV) (f : FV) (op : Int) (hm : 0 ≤ p.mutexes) (hl : 0 ≤ f.locals) : 0 ≤ most p f op := by
  unfold most
  repeat' split
  all_goals omega
theorem instr_good (p : PV) (f : FV) (i : IV) (hm : 0 ≤ p.mutexes) (hl : 0 ≤ f.locals) (ha : -9223372036854775808 ≤ i.a ∧ i.a ≤ 9223372036854775807) : instrB p f (instrOf p f i) = true := by
  have h27 := around_27 i.op
  unfold instrOf
  simp only
  by_cases hk : asks (around i.op 27) = false
  · rw [if_pos hk]
    simp only [instrB, hk, Bool.and_eq_true, decide_eq_true_eq]
    exact ⟨⟨h27.1, h27.2⟩, rfl⟩
  · rw [if_neg hk]
    by_cases h0 : most p f (around i.op 27) = 0
    · rw [if_pos h0]; rfl
    · rw [if_neg h0]
      have hn := most_nonneg p f (around i.op 27) hm hl
      by_cases hp : around i.op 27 = 0
      · rw [if_pos hp]
        have h1 : -999 ≤ i.a.tmod 1000 ∧ i.a.tmod 1000 ≤ 999 := by
          rcases Int.lt_or_le i.a 0 with h | h
          · have : i.a.tmod 1000 = -((-i.a) % 1000) := by
              rw [show i.a = -(-i.a) by omega, Int.neg_tmod, Int.tmod_eq_emod_of_nonneg (by omega)]; simp
            omega
          · rw [Int.tmod_eq_emod_of_nonneg h]; omega
        by_cases hneg : i.a.tmod 1000 < 0
        · simp only [instrB, asks, hneg, Bool.and_eq_true, decide_eq_true_eq]
          refine ⟨by omega, ?_⟩
          simp; omega
        · simp only [instrB, asks, hneg, Bool.and_eq_true, decide_eq_true_eq]
          refine ⟨by omega, ?_⟩
          simp [most]; omega
      · rw [if_neg hp]
        have h2 := around_bd i.a (most p f (around i.op 27)) (by omega)
        have hk' : asks (around i.op 27) = true := by simpa using hk
        simp only [instrB, hk', hp, Bool.and_eq_true, decide_eq_true_eq, false_and, if_false, if_true]
        exact ⟨⟨h27.1, h27.2⟩, h2.1, h2.2⟩

/-- All numbers of a program fit. -/
def FitL (l : List Int) : Prop := ∀ x ∈ l, -9223372036854775808 ≤ x ∧ x ≤ 9223372036854775807
def FitC (c : List IV) : Prop := ∀ i ∈ c, (-9223372036854775808 ≤ i.op ∧ i.op ≤ 9223372036854775807) ∧ (-9223372036854775808 ≤ i.a ∧ i.a ≤ 9223372036854775807)
def FitF (f : FV) : Prop := (-9223372036854775808 ≤ f.locals ∧ f.locals ≤ 9223372036854775807) ∧ FitC f.code
structure Fit (p : PV) : Prop where
  funcs : ∀ f ∈ p.funcs, FitF f
  mutexes : -9223372036854775808 ≤ p.mutexes ∧ p.mutexes ≤ 9223372036854775807
  conds : FitL p.conds
  semas : FitL p.semas
  chans : FitL p.chans
  choices : ∀ c ∈ p.choices, FitL c
  threads : -9223372036854775808 ≤ p.threads ∧ p.threads ≤ 9223372036854775807

theorem good0_head (p : PV) : headB (good0 p) = true := by
  have h1 := funcs0_bd p.funcs
  have h2 := around_bd p.mutexes 4 (by omega)
  have h3 := around_bd p.threads 8 (by omega)
  have h4 := things_len p.conds (around p.mutexes 4 - 1)
  have h5 := things_len p.semas 3
  have h6 := things_len p.chans 3
  have h7 := (choices_good p.choices ((things p.chans 3).length : Int)).2
  have hc : 1 + around p.threads 8 ≤ 32 := by omega
  have hd : 1 ≤ 1 + around p.threads 8 := by omega
  have hm : around p.mutexes 4 ≤ 8 := by omega
  simp only [headB, Bool.and_eq_true]
  exact ⟨⟨⟨⟨⟨⟨⟨⟨⟨decide_eq_true h1.1, decide_eq_true (Nat.le_trans h1.2.1 (by omega))⟩, decide_eq_true h2.1⟩, decide_eq_true hm⟩, decide_eq_true (Nat.le_trans h4 (by omega))⟩, decide_eq_true (Nat.le_trans h5 (by omega))⟩,
    decide_eq_true (Nat.le_trans h6 (by omega))⟩, decide_eq_true (Nat.le_trans h7 (by omega))⟩, decide_eq_true hd⟩, decide_eq_true hc⟩

theorem good_may (p : PV) (h : Fit p) : mayB (good p) = true := by
  have hh := good0_head p
  have h1 := funcs0_bd p.funcs
  have h2 := around_bd p.mutexes 4 (by omega)
  simp only [mayB, Bool.and_eq_true]
  refine ⟨⟨⟨?_, ⟨⟨?_, ?_⟩, ?_⟩⟩, ?_⟩, ?_⟩
  · simp only [headB, good, List.length_map] at hh ⊢; exact hh
  · exact things_all _ _ _ (by simp [good, good0])
  · exact things_all p.semas 3 100 (by omega)
  · exact things_all p.chans 3 8 (by omega)
  · exact (choices_good p.choices _).1
  · simp only [List.all_eq_true]
    intro f hf
    obtain ⟨f0, hf0, rfl⟩ := List.mem_map.1 hf
    have hb := h1.2.2 f0 hf0
    simp only [funcB, Bool.and_eq_true, decide_eq_true_eq, List.length_map, List.all_eq_true]
    refine ⟨⟨⟨hb.1, by omega⟩, by omega⟩, fun i hi => ?_⟩
    obtain ⟨i0, hi0, rfl⟩ := List.mem_map.1 hi
    have hg := instr_good (good0 p) f0 i0 h2.1 hb.1 (by
      have hf0' : f0 ∈ funcs0 p.funcs := hf0
      unfold funcs0 at hf0'
      split at hf0'
      · simp at hf0'; subst hf0'; simp at hi0
      · obtain ⟨f1, hf1, rfl⟩ := List.mem_map.1 hf0'
        exact ((h.funcs f1 (List.mem_of_mem_take hf1)).2 i0 (List.mem_of_mem_take hi0)).2)
    have hm : ∀ op, most (good p) { f0 with code := f0.code.map (instrOf (good0 p) f0) } op = most (good0 p) f0 op := fun op =>
      most_head _ _ _ _ op (by simp [good]) rfl rfl rfl rfl rfl rfl (by simp)
    simp only [instrB, hm] at hg ⊢
    exact hg
end Go.Proofs.Ytmjbfobjndiecaa.Plain
