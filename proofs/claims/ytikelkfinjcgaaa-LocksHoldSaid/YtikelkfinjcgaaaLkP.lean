
/-
  Plain data of layer 9: whose each mutex is, who waits, counts; what each call leaves. No function of the landed code is spoken of here.
-/
import Derived.Lib.Hide
set_option linter.unusedVariables false
set_option linter.unusedSimpArgs false
namespace Go.Proofs.Ytikelkfinjcgaaa.Plain

structure Lk where
  own : List Int
  lq : List (List Int)
  wq : List (List Int)
  cnt : List Int
  dq : List (List Int)

def gn (l : List Int) (m : Nat) : Int := l[m]?.getD (-1)
def gl (L : List (List Int)) (m : Nat) : List Int := L[m]?.getD []
theorem gn_some {l : List Int} {m : Nat} (h : m < l.length) : l[m]? = some (gn l m) := by
  unfold gn
  rw [List.getElem?_eq_getElem h]
  rfl
theorem gl_some {l : List (List Int)} {m : Nat} (h : m < l.length) : l[m]? = some (gl l m) := by
  unfold gl
  rw [List.getElem?_eq_getElem h]
  rfl
theorem gn_set {l : List Int} {m : Nat} (h : m < l.length) (x : Int) : gn (l.set m x) m = x := by
  unfold gn
  rw [List.getElem?_set_self h]
  rfl
theorem gl_set {l : List (List Int)} {m : Nat} (h : m < l.length) (x : List Int) : gl (l.set m x) m = x := by
  unfold gl
  rw [List.getElem?_set_self h]
  rfl
theorem gl_set_ne {l : List (List Int)} {m k : Nat} (h : m ≠ k) (x : List Int) : gl (l.set m x) k = gl l k := by
  unfold gl
  rw [List.getElem?_set_ne h]
theorem gn_set_ne {l : List Int} {m k : Nat} (h : m ≠ k) (x : Int) : gn (l.set m x) k = gn l k := by
  unfold gn
  rw [List.getElem?_set_ne h]
theorem gn_mem {l : List Int} {m : Nat} (h : m < l.length) : gn l m ∈ l := List.mem_of_getElem? (gn_some h)
theorem gl_mem {l : List (List Int)} {m : Nat} (h : m < l.length) : gl l m ∈ l := List.mem_of_getElem? (gl_some h)

/-- How many wait in rows. -/
def tot (L : List (List Int)) : Nat := (L.map List.length).sum
theorem tot_set : ∀ (L : List (List Int)) (m : Nat) (r : List Int), m < L.length → tot (L.set m r) + (gl L m).length = tot L + r.length
  | [], m, r, h => by simp at h
  | l :: L, 0, r, _ => by simp [tot, gl]; omega
  | l :: L, m + 1, r, h => by
    have := tot_set L m r (by simpa using h)
    simp [tot, gl] at this ⊢
    omega
theorem gl_le (L : List (List Int)) (m : Nat) : (gl L m).length ≤ tot L := by
  rcases Nat.lt_or_ge m L.length with h | h
  · have := tot_set L m [] h
    simp at this
    omega
  · unfold gl
    rw [List.getElem?_eq_none h]
    simp

def lockV (s : Lk) (m : Nat) (t : Int) : Lk × Bool :=
  if gn s.own m = -1 then ({ s with own := s.own.set m t }, true) else ({ s with lq := s.lq.set m (gl s.lq m ++ [t]) }, false)
/-- A row's first one (none: -1), and the others. -/
def hd1 : List Int → Int
  | [] => -1
  | x :: _ => x
def handV (s : Lk) (m : Nat) : Lk := { s with own := s.own.set m (hd1 (gl s.lq m)), lq := s.lq.set m (gl s.lq m).tail }
def unlockV (s : Lk) (m : Nat) (t : Int) : Lk × Int × Int := if gn s.own m = t then (handV s m, hd1 (gl s.lq m), 0) else (s, -1, 10)
def waitV (s : Lk) (c m : Nat) (t : Int) : Lk × Int × Int :=
  if gn s.own m = t then (handV { s with wq := s.wq.set c (gl s.wq c ++ [t]) } m, hd1 (gl s.lq m), 0) else (s, -1, 10)
def signalV (s : Lk) (c m : Nat) : Lk × Int × Bool :=
  match gl s.wq c with
  | [] => (s, -1, false)
  | x :: r => ((lockV { s with wq := s.wq.set c r } m x).1, x, (lockV { s with wq := s.wq.set c r } m x).2)
def broadV (c m : Nat) : List Int → Lk → Int → Lk × Int
  | [], s, got => (s, got)
  | x :: r, s, got => broadV c m r (lockV { s with wq := s.wq.set c r } m x).1 (if (lockV { s with wq := s.wq.set c r } m x).2 then x else got)
def downV (s : Lk) (i : Nat) (t : Int) : Lk × Bool :=
  if gn s.cnt i ≤ 0 then ({ s with dq := s.dq.set i (gl s.dq i ++ [t]) }, false) else ({ s with cnt := s.cnt.set i (gn s.cnt i - 1) }, true)
def upV (s : Lk) (i : Nat) : Lk × Int :=
  match gl s.dq i with
  | [] => ({ s with cnt := s.cnt.set i (gn s.cnt i + 1) }, -1)
  | x :: r => ({ s with dq := s.dq.set i r }, x)
def none_ (L : List (List Int)) : Bool := L.all (fun r => r.isEmpty)
def freeV (s : Lk) : Bool := s.own.all (fun x => x == -1) && none_ s.lq && none_ s.wq && none_ s.dq

/-- All rows' numbers are threads'. -/
def Thr (L : List (List Int)) : Prop := ∀ l ∈ L, ∀ x ∈ l, 0 ≤ x ∧ x ≤ 1000000
theorem Thr.set {L : List (List Int)} (h : Thr L) {r : List Int} (hr : ∀ x ∈ r, 0 ≤ x ∧ x ≤ 1000000) (m : Nat) : Thr (L.set m r) := by
  intro l hl
  rcases List.mem_or_eq_of_mem_set hl with h1 | h1
  · exact h l h1
  · subst h1
    exact hr
theorem Thr.gl {L : List (List Int)} (h : Thr L) (m : Nat) : ∀ x ∈ Plain.gl L m, 0 ≤ x ∧ x ≤ 1000000 := by
  rcases Nat.lt_or_ge m L.length with hm | hm
  · exact h _ (gl_mem hm)
  · unfold Plain.gl
    rw [List.getElem?_eq_none hm]
    simp
theorem snoc_thr {l : List Int} (h : ∀ x ∈ l, 0 ≤ x ∧ x ≤ 1000000) {t : Int} (h0 : 0 ≤ t) (h1 : t ≤ 1000000) : ∀ x ∈ l ++ [t], 0 ≤ x ∧ x ≤ 1000000 := by
  intro x hx
  rw [List.mem_append] at hx
  rcases hx with hx | hx
  · exact h x hx
  · simp at hx
    subst hx
    exact ⟨h0, h1⟩
theorem hd1_le {l : List Int} (h : ∀ x ∈ l, 0 ≤ x ∧ x ≤ 1000000) : -1 ≤ hd1 l ∧ hd1 l ≤ 1000000 := by
  cases l with
  | nil => simp [hd1]
  | cons x r =>
    have := h x (by simp)
    simp [hd1]
    omega
/-- What states have, of K things and numbers at most. -/
structure LkOk (K : Nat) (s : Lk) : Prop where
  l1 : s.lq.length = s.own.length
  l2 : s.dq.length = s.cnt.length
  own : ∀ x ∈ s.own, -1 ≤ x ∧ x ≤ 1000000
  cnt : ∀ x ∈ s.cnt, 0 ≤ x ∧ x ≤ (K : Int)
  t1 : Thr s.lq
  t2 : Thr s.wq
  t3 : Thr s.dq
  tt : tot s.lq + tot s.wq + tot s.dq ≤ K
  n1 : s.own.length ≤ K
  n2 : s.wq.length ≤ K
  n3 : s.cnt.length ≤ K
  h1 : ∀ m, m < s.own.length → gn s.own m = -1 → gl s.lq m = []
  h2 : ∀ m, m < s.cnt.length → 0 < gn s.cnt m → gl s.dq m = []
theorem mem_set {l : List Int} {m : Nat} {x : Int} {p : Int → Prop} (h : ∀ y ∈ l, p y) (hx : p x) : ∀ y ∈ l.set m x, p y := fun y hy => by
  rcases List.mem_or_eq_of_mem_set hy with h1 | h1
  · exact h y h1
  · subst h1
    exact hx
theorem LkOk.mono {K K' : Nat} {s : Lk} (h : LkOk K s) (hK : K ≤ K') : LkOk K' s :=
  ⟨h.l1, h.l2, h.own, fun x hx => by have := h.cnt x hx; omega, h.t1, h.t2, h.t3, Nat.le_trans h.tt hK, Nat.le_trans h.n1 hK, Nat.le_trans h.n2 hK, Nat.le_trans h.n3 hK, h.h1, h.h2⟩
theorem LkOk.lock {K : Nat} {s : Lk} (h : LkOk K s) {m : Nat} {t : Int} (hm : m < s.own.length) (h0 : 0 ≤ t) (h1 : t ≤ 1000000) (hK : tot s.lq + tot s.wq + tot s.dq + 1 ≤ K) : LkOk K (lockV s m t).1 := by
  unfold lockV
  split
  · refine ⟨by simpa using h.l1, h.l2, mem_set h.own (by omega), h.cnt, h.t1, h.t2, h.t3, h.tt, by simpa using h.n1, h.n2, h.n3, fun k hk e => ?_, h.h2⟩
    rw [List.length_set] at hk
    by_cases hmk : m = k
    · subst hmk
      simp only at e
      rw [gn_set hm] at e
      omega
    · simp only at e
      rw [gn_set_ne hmk] at e
      exact h.h1 k hk e
  · rename_i hne
    have hml : m < s.lq.length := by rw [h.l1]; exact hm
    have := tot_set s.lq m (gl s.lq m ++ [t]) hml
    simp at this
    refine ⟨by simpa using h.l1, h.l2, h.own, h.cnt, h.t1.set (snoc_thr (h.t1.gl m) h0 h1) m, h.t2, h.t3, by simp only; omega, h.n1, h.n2, h.n3, fun k hk e => ?_, h.h2⟩
    by_cases hmk : m = k
    · subst hmk
      exact absurd e hne
    · simp only
      rw [gl_set_ne hmk]
      exact h.h1 k hk e
theorem tail_thr {l : List Int} (h : ∀ x ∈ l, 0 ≤ x ∧ x ≤ 1000000) : ∀ x ∈ l.tail, 0 ≤ x ∧ x ≤ 1000000 := fun x hx => h x (List.mem_of_mem_tail hx)
theorem LkOk.hand {K : Nat} {s : Lk} (h : LkOk K s) {m : Nat} (hm : m < s.own.length) : LkOk K (handV s m) ∧ tot (handV s m).lq ≤ tot s.lq := by
  have hml : m < s.lq.length := by rw [h.l1]; exact hm
  have := tot_set s.lq m (gl s.lq m).tail hml
  simp at this
  refine ⟨⟨by simpa [handV] using h.l1, h.l2, mem_set h.own (hd1_le (h.t1.gl m)), h.cnt, h.t1.set (tail_thr (h.t1.gl m)) m, h.t2, h.t3, ?_, by simpa [handV] using h.n1, h.n2, h.n3, fun k hk e => ?_, h.h2⟩, ?_⟩
  · have := h.tt
    simp only [handV]
    omega
  · simp only [handV] at hk e ⊢
    rw [List.length_set] at hk
    by_cases hmk : m = k
    · subst hmk
      rw [gn_set hm] at e
      rw [gl_set hml]
      have := h.t1.gl m
      cases hg : gl s.lq m with
      | nil => rfl
      | cons x r =>
        rw [hg] at e this
        have := this x (by simp)
        simp [hd1] at e
        omega
    · rw [gn_set_ne hmk] at e
      rw [gl_set_ne hmk]
      exact h.h1 k hk e
  · simp only [handV]
    omega
theorem LkOk.unlock {K : Nat} {s : Lk} (h : LkOk K s) {m : Nat} (hm : m < s.own.length) (t : Int) : LkOk K (unlockV s m t).1 := by
  unfold unlockV
  split
  · exact (h.hand hm).1
  · exact h
theorem LkOk.waiting {K : Nat} {s : Lk} (h : LkOk K s) {c : Nat} {t : Int} (hc : c < s.wq.length) (h0 : 0 ≤ t) (h1 : t ≤ 1000000) (hK : tot s.lq + tot s.wq + tot s.dq + 1 ≤ K) : LkOk K { s with wq := s.wq.set c (gl s.wq c ++ [t]) } := by
  have := tot_set s.wq c (gl s.wq c ++ [t]) hc
  simp at this
  exact ⟨h.l1, h.l2, h.own, h.cnt, h.t1, h.t2.set (snoc_thr (h.t2.gl c) h0 h1) c, h.t3, by simp only; omega, h.n1, by simpa using h.n2, h.n3, h.h1, h.h2⟩
theorem LkOk.wait {K : Nat} {s : Lk} (h : LkOk K s) {c m : Nat} {t : Int} (hc : c < s.wq.length) (hm : m < s.own.length) (h0 : 0 ≤ t) (h1 : t ≤ 1000000) (hK : tot s.lq + tot s.wq + tot s.dq + 1 ≤ K) : LkOk K (waitV s c m t).1 := by
  unfold waitV
  split
  · exact ((h.waiting hc h0 h1 hK).hand hm).1
  · exact h
theorem LkOk.fewer {K : Nat} {s : Lk} (h : LkOk K s) {c : Nat} {x : Int} {r : List Int} (hc : c < s.wq.length) (e : gl s.wq c = x :: r) :
    LkOk K { s with wq := s.wq.set c r } ∧ tot s.lq + tot (s.wq.set c r) + tot s.dq + 1 ≤ K ∧ 0 ≤ x ∧ x ≤ 1000000 := by
  have := tot_set s.wq c r hc
  rw [e] at this
  simp at this
  have ht := h.t2.gl c
  rw [e] at ht
  have hx := ht x (by simp)
  have hk := h.tt
  exact ⟨⟨h.l1, h.l2, h.own, h.cnt, h.t1, h.t2.set (fun y hy => ht y (by simp [hy])) c, h.t3, by simp only; omega, h.n1, by simpa using h.n2, h.n3, h.h1, h.h2⟩, by omega, hx⟩
theorem lockV_wq (s : Lk) (m : Nat) (t : Int) : (lockV s m t).1.wq = s.wq ∧ (lockV s m t).1.own.length = s.own.length ∧ (lockV s m t).1.lq.length = s.lq.length ∧ (lockV s m t).1.cnt = s.cnt ∧ (lockV s m t).1.dq = s.dq := by
  unfold lockV
  split <;> simp
theorem LkOk.signal {K : Nat} {s : Lk} (h : LkOk K s) {c m : Nat} (hc : c < s.wq.length) (hm : m < s.own.length) : LkOk K (signalV s c m).1 := by
  unfold signalV
  split
  · exact h
  · rename_i x r e
    obtain ⟨h1, h2, h3, h4⟩ := h.fewer hc e
    exact h1.lock hm h3 h4 h2
theorem LkOk.broad {K c m : Nat} : ∀ (row : List Int) {s : Lk} (got : Int), LkOk K s → c < s.wq.length → m < s.own.length → gl s.wq c = row → LkOk K (broadV c m row s got).1
  | [], s, got, h, _, _, _ => h
  | x :: r, s, got, h, hc, hm, e => by
    obtain ⟨h1, h2, h3, h4⟩ := h.fewer hc e
    have hl := lockV_wq { s with wq := s.wq.set c r } m x
    refine LkOk.broad r _ (h1.lock hm h3 h4 h2) ?_ ?_ ?_
    · rw [hl.1]; simpa using hc
    · rw [hl.2.1]; exact hm
    · rw [hl.1]; exact gl_set hc r
theorem broadV_len {c m : Nat} : ∀ (row : List Int) (s : Lk) (got : Int), (broadV c m row s got).1.own.length = s.own.length ∧ (broadV c m row s got).1.wq.length = s.wq.length ∧ (broadV c m row s got).1.cnt = s.cnt ∧ (broadV c m row s got).1.dq = s.dq
  | [], s, got => ⟨rfl, rfl, rfl, rfl⟩
  | x :: r, s, got => by
    have hl := lockV_wq { s with wq := s.wq.set c r } m x
    have := broadV_len (c := c) (m := m) r (lockV { s with wq := s.wq.set c r } m x).1 (if (lockV { s with wq := s.wq.set c r } m x).2 then x else got)
    simp only [broadV]
    rw [this.1, this.2.1, this.2.2.1, this.2.2.2, hl.1, hl.2.1, hl.2.2.2.1, hl.2.2.2.2]
    simp
theorem LkOk.down {K : Nat} {s : Lk} (h : LkOk K s) {i : Nat} {t : Int} (hi : i < s.cnt.length) (h0 : 0 ≤ t) (h1 : t ≤ 1000000) (hK : tot s.lq + tot s.wq + tot s.dq + 1 ≤ K) : LkOk K (downV s i t).1 := by
  unfold downV
  have hil : i < s.dq.length := by rw [h.l2]; exact hi
  split
  · rename_i hle
    have := tot_set s.dq i (gl s.dq i ++ [t]) hil
    simp at this
    refine ⟨h.l1, by simpa using h.l2, h.own, h.cnt, h.t1, h.t2, h.t3.set (snoc_thr (h.t3.gl i) h0 h1) i, by simp only; omega, h.n1, h.n2, h.n3, h.h1, fun k hk e => ?_⟩
    by_cases hmk : i = k
    · subst hmk
      simp only at e
      omega
    · simp only
      rw [gl_set_ne hmk]
      exact h.h2 k hk e
  · rename_i hle
    have hc := h.cnt _ (gn_mem hi)
    refine ⟨h.l1, by simpa using h.l2, h.own, mem_set h.cnt (by omega), h.t1, h.t2, h.t3, h.tt, h.n1, h.n2, by simpa using h.n3, h.h1, fun k hk e => ?_⟩
    simp only [List.length_set] at hk
    by_cases hmk : i = k
    · subst hmk
      exact h.h2 i hk (by omega)
    · simp only at e
      rw [gn_set_ne hmk] at e
      exact h.h2 k hk e
theorem LkOk.up {K : Nat} {s : Lk} (h : LkOk K s) {i : Nat} (hi : i < s.cnt.length) (hK : gn s.cnt i + 1 ≤ (K : Int)) : LkOk K (upV s i).1 := by
  unfold upV
  have hil : i < s.dq.length := by rw [h.l2]; exact hi
  have hc := h.cnt _ (gn_mem hi)
  split
  · rename_i e0
    refine ⟨h.l1, by simpa using h.l2, h.own, mem_set h.cnt (by omega), h.t1, h.t2, h.t3, h.tt, h.n1, h.n2, by simpa using h.n3, h.h1, fun k hk e => ?_⟩
    simp only [List.length_set] at hk
    by_cases hmk : i = k
    · subst hmk
      exact e0
    · simp only at e
      rw [gn_set_ne hmk] at e
      exact h.h2 k hk e
  · rename_i x r e0
    have := tot_set s.dq i r hil
    rw [e0] at this
    simp at this
    have ht := h.t3.gl i
    rw [e0] at ht
    have hk2 := h.tt
    refine ⟨h.l1, by simpa using h.l2, h.own, h.cnt, h.t1, h.t2, h.t3.set (fun y hy => ht y (by simp [hy])) i, by simp only; omega, h.n1, h.n2, h.n3, h.h1, fun k hk e => ?_⟩
    by_cases hmk : i = k
    · subst hmk
      rw [h.h2 i hk e] at e0
      cases e0
    · simp only
      rw [gl_set_ne hmk]
      exact h.h2 k hk e
def newV (a b : Nat) (l : List Int) : Lk := ⟨List.replicate a (-1), List.replicate a [], List.replicate b [], l, List.replicate l.length []⟩
theorem tot_rep (n : Nat) : tot (List.replicate n []) = 0 := by simp [tot]
theorem gl_rep (n m : Nat) : gl (List.replicate n []) m = [] := by
  unfold gl
  rcases Nat.lt_or_ge m n with h | h
  · rw [List.getElem?_replicate_of_lt h]; rfl
  · rw [List.getElem?_eq_none (by simpa using h)]; rfl
theorem thr_rep (n : Nat) : Thr (List.replicate n []) := fun l hl x hx => by
  rw [List.mem_replicate] at hl
  rw [hl.2] at hx
  simp at hx
theorem LkOk.new {K a b : Nat} {l : List Int} (h1 : a ≤ K) (h2 : b ≤ K) (h3 : l.length ≤ K) (h4 : ∀ x ∈ l, 0 ≤ x ∧ x ≤ (K : Int)) : LkOk K (newV a b l) := by
  refine ⟨by simp [newV], by simp [newV], fun x hx => ?_, h4, thr_rep _, thr_rep _, thr_rep _, by simp [newV, tot_rep], by simpa [newV] using h1, by simpa [newV] using h2, h3, fun m _ _ => gl_rep _ _, fun m _ _ => gl_rep _ _⟩
  simp [newV] at hx
  omega
end Go.Proofs.Ytikelkfinjcgaaa.Plain
