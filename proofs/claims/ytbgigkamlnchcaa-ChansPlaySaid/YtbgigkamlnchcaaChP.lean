
/-
  Plain data of layer 10: what lies in channels, who waits to send, who waits to receive; what each call leaves. No function of the landed code is spoken of here.
-/
import Derived.Lib.Hide
set_option linter.unusedVariables false
set_option linter.unusedSimpArgs false
namespace Go.Proofs.Ytbgigkamlnchcaa.Plain

structure Ck where
  bf : List (List Int)
  sq : List (List Int)
  rq : List (List Int)

def gn (l : List Int) (m : Nat) : Int := l[m]?.getD (-1)
def gl (L : List (List Int)) (m : Nat) : List Int := L[m]?.getD []
theorem gn_some {l : List Int} {m : Nat} (h : m < l.length) : l[m]? = some (gn l m) := by
  unfold gn
  rw [List.getElem?_eq_getElem h]
  rfl
theorem gl_some {l : List (List Int)} {m : Nat} (h : m < l.length) : l[m]? = some (gl l m) := by
  unfold gl
  rw [List.getElem?_eq_getElem h]
  rfl
theorem gl_out {l : List (List Int)} {m : Nat} (h : l.length ≤ m) : gl l m = [] := by
  unfold gl
  rw [List.getElem?_eq_none h]
  rfl
theorem gl_set {l : List (List Int)} {m : Nat} (h : m < l.length) (x : List Int) : gl (l.set m x) m = x := by
  unfold gl
  rw [List.getElem?_set_self h]
  rfl
theorem gl_set_ne {l : List (List Int)} {m k : Nat} (h : m ≠ k) (x : List Int) : gl (l.set m x) k = gl l k := by
  unfold gl
  rw [List.getElem?_set_ne h]
theorem gl_mem {l : List (List Int)} {m : Nat} (h : m < l.length) : gl l m ∈ l := List.mem_of_getElem? (gl_some h)
theorem set_gl (l : List (List Int)) (m : Nat) : l.set m (gl l m) = l := by
  rcases Nat.lt_or_ge m l.length with h | h
  · apply List.ext_getElem?
    intro k
    by_cases hk : m = k
    · subst hk
      rw [List.getElem?_set_self h, gl_some h]
    · rw [List.getElem?_set_ne hk]
  · exact List.set_eq_of_length_le h
theorem gl_map {l : List (List Int)} {f : List Int → List Int} (hf : f [] = []) (m : Nat) : gl (l.map f) m = f (gl l m) := by
  unfold gl
  rw [List.getElem?_map]
  cases l[m]? with
  | none => simp [hf]
  | some x => rfl

/-- How many stand in rows. -/
def tot (L : List (List Int)) : Nat := (L.map List.length).sum
theorem tot_set : ∀ (L : List (List Int)) (m : Nat) (r : List Int), m < L.length → tot (L.set m r) + (gl L m).length = tot L + r.length
  | [], m, r, h => by simp at h
  | l :: L, 0, r, _ => by simp [tot, gl]; omega
  | l :: L, m + 1, r, h => by
    have := tot_set L m r (by simpa using h)
    simp [tot, gl] at this ⊢
    omega
theorem gl_le (L : List (List Int)) (m : Nat) : (gl L m).length ≤ tot L := by
  rcases Nat.lt_or_ge m L.length with h | h
  · have := tot_set L m [] h
    simp at this
    omega
  · unfold gl
    rw [List.getElem?_eq_none h]
    simp
theorem tot_map_le {f : List Int → List Int} (hf : ∀ l, (f l).length ≤ l.length) : ∀ L : List (List Int), tot (L.map f) ≤ tot L
  | [] => by simp [tot]
  | l :: L => by
    have := tot_map_le hf L
    have := hf l
    simp [tot] at *
    omega

/-- A row without a thread. -/
def wo (t : Int) (l : List Int) : List Int := l.filter fun x => x != t
theorem wo_nil (t : Int) : wo t [] = [] := rfl
theorem wo_len (t : Int) (l : List Int) : (wo t l).length ≤ l.length := List.length_filter_le _ _
theorem wo_not {t : Int} {l : List Int} (h : t ∉ l) : wo t l = l := by
  unfold wo
  rw [List.filter_eq_self]
  intro x hx
  simp
  rintro rfl
  exact h hx
theorem mem_wo {t x : Int} {l : List Int} : x ∈ wo t l ↔ x ∈ l ∧ x ≠ t := by simp [wo]
def hd1 : List Int → Int
  | [] => -1
  | x :: _ => x
def hd0 : List Int → Int
  | [] => 0
  | x :: _ => x
def cancelV (s : Ck) (t : Int) : Ck := { s with rq := s.rq.map (wo t) }
def didV (s : Ck) (t : Int) : Bool := s.rq.any fun l => l.contains t
def sendV (s : Ck) (m : Nat) (room : Int) (t v : Int) : Ck × Int × Bool :=
  match gl s.rq m with
  | x :: _ => (cancelV s x, x, true)
  | [] => if ((gl s.bf m).length : Int) < room then ({ s with bf := s.bf.set m (gl s.bf m ++ [v]) }, -1, true) else ({ s with sq := s.sq.set m (gl s.sq m ++ [t, v]) }, -1, false)
/-- The first one that waits to send waits no more. -/
def admitV (s : Ck) (m : Nat) : Ck × Int :=
  match gl s.sq m with
  | x :: y :: q => ({ s with bf := s.bf.set m (gl s.bf m ++ [y]), sq := s.sq.set m q }, x)
  | _ => (s, -1)
/-- The first number is taken, or one waits. -/
def takeV (s : Ck) (m : Nat) (t : Int) (k : Int) : Ck × Int × Int × Bool :=
  match gl s.bf m with
  | v :: r => ({ s with bf := s.bf.set m r }, v, k, true)
  | [] => ({ s with rq := s.rq.set m (gl s.rq m ++ [t]) }, 0, -1, false)
def recvV (s : Ck) (m : Nat) (t : Int) : Ck × Int × Int × Bool := takeV (admitV s m).1 m t (admitV s m).2
def readyV (s : Ck) (m : Nat) : Bool := !(gl s.bf m).isEmpty || !(gl s.sq m).isEmpty
/-- The first channel that is ready: its place, and which. -/
def firstV (s : Ck) : List Nat → Nat → Option (Nat × Nat)
  | [], _ => none
  | m :: l, i => if readyV s m then some (i, m) else firstV s l (i + 1)
def waitAll (t : Int) : List Nat → Ck → Ck
  | [], s => s
  | m :: l, s => waitAll t l { s with rq := s.rq.set m (gl s.rq m ++ [t]) }
def selectV (s : Ck) (l : List Nat) (t : Int) : Ck × Int × Int × Int × Bool :=
  match firstV s l 0 with
  | some (i, m) => ((recvV s m t).1, (i : Int), (recvV s m t).2.1, (recvV s m t).2.2.1, (recvV s m t).2.2.2)
  | none => (waitAll t l s, -1, 0, -1, false)
/-- Every other one, from the first on: the first j of them. -/
def evN (l : List Int) (j : Nat) : List Int := (List.range j).map fun i => gn l (2 * i)
theorem evN_succ (l : List Int) (j : Nat) : evN l (j + 1) = evN l j ++ [gn l (2 * j)] := by simp [evN, List.range_succ]
theorem evN_len (l : List Int) (j : Nat) : (evN l j).length = j := by simp [evN]
def sendersV (s : Ck) (m : Nat) : List Int := evN (gl s.sq m) ((gl s.sq m).length / 2)
/-- Where a number stands (nowhere: -1). -/
def idxV (x : Int) : List Int → Nat → Int
  | [], _ => -1
  | y :: r, i => if y = x then (i : Int) else idxV x r (i + 1)

/-- What states have, of n channels, and K numbers at most. -/
structure CkOk (K n : Nat) (s : Ck) : Prop where
  l1 : s.bf.length = n
  l2 : s.sq.length = n
  l3 : s.rq.length = n
  ev : ∀ m, (gl s.sq m).length % 2 = 0
  tt : tot s.bf + tot s.sq + tot s.rq ≤ K
theorem CkOk.mono {K K' n : Nat} {s : Ck} (h : CkOk K n s) (hK : K ≤ K') : CkOk K' n s := ⟨h.l1, h.l2, h.l3, h.ev, Nat.le_trans h.tt hK⟩
theorem CkOk.row {K n : Nat} {s : Ck} (h : CkOk K n s) (m : Nat) : (gl s.bf m).length + (gl s.sq m).length + (gl s.rq m).length ≤ K := by
  have := gl_le s.bf m
  have := gl_le s.sq m
  have := gl_le s.rq m
  have := h.tt
  omega
theorem cancel_tot (s : Ck) (t : Int) : tot (cancelV s t).rq ≤ tot s.rq := tot_map_le (wo_len t) _
theorem CkOk.cancel {K n : Nat} {s : Ck} (h : CkOk K n s) (t : Int) : CkOk K n (cancelV s t) :=
  ⟨h.l1, h.l2, by simpa [cancelV] using h.l3, h.ev, by have := cancel_tot s t; have := h.tt; show tot s.bf + tot s.sq + tot (cancelV s t).rq ≤ K; omega⟩
theorem ev_set {L : List (List Int)} (h : ∀ m, (gl L m).length % 2 = 0) (m : Nat) {r : List Int} (hr : r.length % 2 = 0) : ∀ k, (gl (L.set m r) k).length % 2 = 0 := by
  intro k
  by_cases hk : m = k
  · subst hk
    rcases Nat.lt_or_ge m L.length with hl | hl
    · rw [gl_set hl]; exact hr
    · rw [List.set_eq_of_length_le hl]; exact h m
  · rw [gl_set_ne hk]; exact h k
theorem CkOk.setB {K n : Nat} {s : Ck} (h : CkOk K n s) {m : Nat} (hm : m < n) {r : List Int} {d : Nat} (hr : r.length ≤ (gl s.bf m).length + d) (hK : tot s.bf + tot s.sq + tot s.rq + d ≤ K) : CkOk K n { s with bf := s.bf.set m r } := by
  have := tot_set s.bf m r (by rw [h.l1]; exact hm)
  exact ⟨by simpa using h.l1, h.l2, h.l3, h.ev, by simp only; omega⟩
theorem CkOk.setS {K n : Nat} {s : Ck} (h : CkOk K n s) {m : Nat} (hm : m < n) {r : List Int} {d : Nat} (he : r.length % 2 = 0) (hr : r.length ≤ (gl s.sq m).length + d) (hK : tot s.bf + tot s.sq + tot s.rq + d ≤ K) : CkOk K n { s with sq := s.sq.set m r } := by
  have := tot_set s.sq m r (by rw [h.l2]; exact hm)
  exact ⟨h.l1, by simpa using h.l2, h.l3, ev_set h.ev m he, by simp only; omega⟩
theorem CkOk.setR {K n : Nat} {s : Ck} (h : CkOk K n s) {m : Nat} (hm : m < n) {r : List Int} {d : Nat} (hr : r.length ≤ (gl s.rq m).length + d) (hK : tot s.bf + tot s.sq + tot s.rq + d ≤ K) : CkOk K n { s with rq := s.rq.set m r } := by
  have := tot_set s.rq m r (by rw [h.l3]; exact hm)
  exact ⟨h.l1, h.l2, by simpa using h.l3, h.ev, by simp only; omega⟩
theorem CkOk.send {K n : Nat} {s : Ck} (h : CkOk K n s) {m : Nat} (hm : m < n) (room t v : Int) : CkOk (K + 2) n (sendV s m room t v).1 := by
  have ht := h.tt
  unfold sendV
  split
  · exact (h.cancel _).mono (by omega)
  · split
    · exact (h.mono (Nat.le_add_right _ 2)).setB hm (d := 1) (by simp) (by omega)
    · have := h.ev m
      exact (h.mono (Nat.le_add_right _ 2)).setS hm (d := 2) (by simp; omega) (by simp) (by omega)
theorem CkOk.admit {K n : Nat} {s : Ck} (h : CkOk K n s) {m : Nat} (hm : m < n) : CkOk (K + 1) n (admitV s m).1 := by
  have ht := h.tt
  unfold admitV
  split
  · rename_i x y q e
    have h1 : CkOk (K + 1) n { s with bf := s.bf.set m (gl s.bf m ++ [y]) } := (h.mono (Nat.le_add_right _ 1)).setB hm (d := 1) (by simp) (by omega)
    have he := h.ev m
    rw [e] at he
    have hb := tot_set s.bf m (gl s.bf m ++ [y]) (by rw [h.l1]; exact hm)
    simp at hb he
    exact h1.setS hm (d := 0) (by omega) (by rw [e]; simp) (by simp only; omega)
  · exact h.mono (by omega)
theorem CkOk.take {K n : Nat} {s : Ck} (h : CkOk K n s) {m : Nat} (hm : m < n) (t k : Int) : CkOk (K + 1) n (takeV s m t k).1 := by
  have ht := h.tt
  unfold takeV
  split
  · rename_i v r e
    exact (h.mono (Nat.le_add_right _ 1)).setB hm (d := 0) (by rw [e]; simp) (by omega)
  · exact (h.mono (Nat.le_add_right _ 1)).setR hm (d := 1) (by simp) (by omega)
theorem CkOk.recv {K n : Nat} {s : Ck} (h : CkOk K n s) {m : Nat} (hm : m < n) (t : Int) : CkOk (K + 2) n (recvV s m t).1 := (h.admit hm).take hm t _
theorem CkOk.waitAll {n : Nat} (t : Int) : ∀ (l : List Nat) {K : Nat} {s : Ck}, CkOk K n s → (∀ m ∈ l, m < n) → CkOk (K + l.length) n (waitAll t l s)
  | [], K, s, h, _ => h
  | m :: l, K, s, h, hl => by
    have ht := h.tt
    have h1 : CkOk (K + 1) n { s with rq := s.rq.set m (gl s.rq m ++ [t]) } := (h.mono (Nat.le_add_right _ 1)).setR (hl m (by simp)) (d := 1) (by simp) (by omega)
    have := CkOk.waitAll t l h1 (fun k hk => hl k (by simp [hk]))
    exact this.mono (by simp; omega)
theorem firstV_mem {s : Ck} : ∀ (l : List Nat) (i : Nat) {j m : Nat}, firstV s l i = some (j, m) → m ∈ l ∧ i ≤ j ∧ j < i + l.length ∧ readyV s m = true
  | [], i, j, m, h => by simp [firstV] at h
  | k :: l, i, j, m, h => by
    unfold firstV at h
    split at h
    · rename_i hr
      injection h with h
      injection h with h1 h2
      subst h1 h2
      exact ⟨by simp, Nat.le_refl _, by simp, hr⟩
    · have := firstV_mem l (i + 1) h
      refine ⟨by simp [this.1], by omega, ?_, this.2.2.2⟩
      simp
      omega
theorem CkOk.select {K n : Nat} {s : Ck} (h : CkOk K n s) {l : List Nat} (hl : ∀ m ∈ l, m < n) (t : Int) : CkOk (K + 2 + l.length) n (selectV s l t).1 := by
  unfold selectV
  split
  · rename_i i m e
    exact (h.recv (hl m (firstV_mem _ _ e).1) t).mono (by omega)
  · exact (h.waitAll t l hl).mono (by omega)
def newV (n : Nat) : Ck := ⟨List.replicate n [], List.replicate n [], List.replicate n []⟩
theorem tot_rep (n : Nat) : tot (List.replicate n []) = 0 := by simp [tot]
theorem gl_rep (n m : Nat) : gl (List.replicate n []) m = [] := by
  unfold gl
  rcases Nat.lt_or_ge m n with h | h
  · rw [List.getElem?_replicate_of_lt h]; rfl
  · rw [List.getElem?_eq_none (by simpa using h)]; rfl
theorem CkOk.new (n : Nat) : CkOk 0 n (newV n) := ⟨by simp [newV], by simp [newV], by simp [newV], fun m => by simp [newV, gl_rep], by simp [newV, tot_rep]⟩
end Go.Proofs.Ytbgigkamlnchcaa.Plain
