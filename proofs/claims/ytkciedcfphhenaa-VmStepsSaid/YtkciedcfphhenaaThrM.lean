
/-
  Threads in memory: rows of frames. No function of the landed code is spoken of here.
-/
import Derived.Test.YtkciedcfphhenaaGoodM
import Derived.Test.YtkciedcfphhenaaThrP
set_option linter.unusedVariables false
set_option linter.unusedSimpArgs false
namespace Go.Proofs.Ytkciedcfphhenaa
open Go.ChangeShapes Go.WideShapes Go.Deep Go.RowKit Plain

/-- Triples, one behind the other. -/
def flat3 (l : List (Value × Value × Value)) : List Value := l.flatMap fun p => [p.1, p.2.1, p.2.2]
theorem flat3_cons (p : Value × Value × Value) (l : List (Value × Value × Value)) : flat3 (p :: l) = p.1 :: p.2.1 :: p.2.2 :: flat3 l := by simp [flat3]
theorem flat3_append (l m : List (Value × Value × Value)) : flat3 (l ++ m) = flat3 l ++ flat3 m := by simp [flat3]
theorem flat3_length (l : List (Value × Value × Value)) : (flat3 l).length = l.length * 3 := by
  induction l with
  | nil => rfl
  | cons p r ih => rw [flat3_cons]; simp [ih]; omega
theorem flat3_at : ∀ (l : List (Value × Value × Value)) (i : Nat) (p : Value × Value × Value), l[i]? = some p → (flat3 l)[i * 3]? = some p.1 ∧ (flat3 l)[i * 3 + 1]? = some p.2.1 ∧ (flat3 l)[i * 3 + 2]? = some p.2.2
  | [], i, p, h => by simp at h
  | q :: r, 0, p, h => by simp at h; subst h; simp [flat3_cons]
  | q :: r, i + 1, p, h => by
    have := flat3_at r i p (by simpa using h)
    rw [flat3_cons, show (i + 1) * 3 = i * 3 + 1 + 1 + 1 by omega]
    simpa using this
theorem flat3_get : ∀ (l : List (Value × Value × Value)) (j : Nat) (u : Value), (flat3 l)[j]? = some u → ∃ i p, l[i]? = some p ∧ ((j = i * 3 ∧ u = p.1) ∨ (j = i * 3 + 1 ∧ u = p.2.1) ∨ (j = i * 3 + 2 ∧ u = p.2.2))
  | [], j, u, h => by simp [flat3] at h
  | q :: r, 0, u, h => by rw [flat3_cons] at h; simp at h; exact ⟨0, q, rfl, .inl ⟨rfl, h.symm⟩⟩
  | q :: r, 1, u, h => by rw [flat3_cons] at h; simp at h; exact ⟨0, q, rfl, .inr (.inl ⟨rfl, h.symm⟩)⟩
  | q :: r, 2, u, h => by rw [flat3_cons] at h; simp at h; exact ⟨0, q, rfl, .inr (.inr ⟨rfl, h.symm⟩)⟩
  | q :: r, j + 3, u, h => by
    rw [flat3_cons] at h
    simp at h
    obtain ⟨i, p, h1, h2⟩ := flat3_get r j u h
    refine ⟨i + 1, p, by simpa using h1, ?_⟩
    rcases h2 with ⟨rfl, h2⟩ | ⟨rfl, h2⟩ | ⟨rfl, h2⟩
    · exact .inl ⟨by omega, h2⟩
    · exact .inr (.inl ⟨by omega, h2⟩)
    · exact .inr (.inr ⟨by omega, h2⟩)
theorem flat3_set0 : ∀ (l : List (Value × Value × Value)) (i : Nat) (p : Value × Value × Value) (v : Value), l[i]? = some p → (flat3 l).set (i * 3) v = flat3 (l.set i (v, p.2.1, p.2.2))
  | [], i, p, v, h => by simp at h
  | q :: r, 0, p, v, h => by simp at h; subst h; simp [flat3_cons]
  | q :: r, i + 1, p, v, h => by
    have := flat3_set0 r i p v (by simpa using h)
    rw [flat3_cons, show (i + 1) * 3 = i * 3 + 1 + 1 + 1 by omega]
    simp only [List.set_cons_succ, flat3_cons, this]
theorem flat3_set1 : ∀ (l : List (Value × Value × Value)) (i : Nat) (p : Value × Value × Value) (v : Value), l[i]? = some p → (flat3 l).set (i * 3 + 1) v = flat3 (l.set i (p.1, v, p.2.2))
  | [], i, p, v, h => by simp at h
  | q :: r, 0, p, v, h => by simp at h; subst h; simp [flat3_cons]
  | q :: r, i + 1, p, v, h => by
    have := flat3_set1 r i p v (by simpa using h)
    rw [flat3_cons, show (i + 1) * 3 + 1 = i * 3 + 1 + 1 + 1 + 1 by omega]
    simp only [List.set_cons_succ, flat3_cons, this]
theorem flat3_set2 : ∀ (l : List (Value × Value × Value)) (i : Nat) (p : Value × Value × Value) (v : Value), l[i]? = some p → (flat3 l).set (i * 3 + 2) v = flat3 (l.set i (p.1, p.2.1, v))
  | [], i, p, v, h => by simp at h
  | q :: r, 0, p, v, h => by simp at h; subst h; simp [flat3_cons]
  | q :: r, i + 1, p, v, h => by
    have := flat3_set2 r i p v (by simpa using h)
    rw [flat3_cons, show (i + 1) * 3 + 2 = i * 3 + 2 + 1 + 1 + 1 by omega]
    simp only [List.set_cons_succ, flat3_cons, this]
theorem flat3_one (l : List (Value × Value × Value)) (h : ∀ p ∈ l, p.1.oneCell' = true ∧ p.2.1.oneCell' = true ∧ p.2.2.oneCell' = true) : ∀ u ∈ flat3 l, u.oneCell' = true := by
  intro u hu
  obtain ⟨p, hp, hm⟩ := List.mem_flatMap.1 hu
  simp at hm
  rcases hm with rfl | rfl | rfl
  · exact (h p hp).1
  · exact (h p hp).2.1
  · exact (h p hp).2.2

/-- A frame with the address, and the room, of its locals. -/
structure TFr where
  f : FrV
  A : Option Addr
  c : Nat
def TFr.cells (t : TFr) : Value × Value × Value := (.int .i64 t.f.func, .int .i64 t.f.pc, .slice t.A t.f.locals.length t.c)
def FrS (ts : List TFr) : List Value := flat3 (ts.map TFr.cells)
theorem FrS_length (ts : List TFr) : (FrS ts).length = ts.length * 3 := by simp [FrS, flat3_length]
theorem FrS_append (ts us : List TFr) : FrS ts ++ FrS us = FrS (ts ++ us) := by simp [FrS, flat3_append]
theorem FrS_at {ts : List TFr} {i : Nat} {t : TFr} (h : ts[i]? = some t) : (FrS ts)[i * 3]? = some (.int .i64 t.f.func) ∧ (FrS ts)[i * 3 + 1]? = some (.int .i64 t.f.pc) ∧ (FrS ts)[i * 3 + 2]? = some (.slice t.A t.f.locals.length t.c) :=
  flat3_at _ i t.cells (by simp [h])
theorem FrS_one (ts : List TFr) : ∀ u ∈ FrS ts, u.oneCell' = true := flat3_one _ fun p hp => by
  obtain ⟨t, _, rfl⟩ := List.mem_map.1 hp
  exact ⟨rfl, rfl, rfl⟩
/-- A frame's locals are put elsewhere. -/
theorem FrS_setL (ts : List TFr) (i : Nat) (t : TFr) (h : ts[i]? = some t) (l : List Int) (A : Option Addr) (c : Nat) : (FrS ts).set (i * 3 + 2) (.slice A l.length c) = FrS (ts.set i ⟨{ t.f with locals := l }, A, c⟩) := by
  unfold FrS
  rw [flat3_set2 _ i t.cells _ (by simp [h]), List.map_set]
  rfl
theorem FrS_setPc (ts : List TFr) (i : Nat) (t : TFr) (h : ts[i]? = some t) (pc : Int) : (FrS ts).set (i * 3 + 1) (.int .i64 pc) = FrS (ts.set i { t with f := { t.f with pc := pc } }) := by
  unfold FrS
  rw [flat3_set1 _ i t.cells _ (by simp [h]), List.map_set]
  rfl

/-- Frames that stand in memory, in blocks below B. -/
def RG (w : World) (B : Nat) (A : Option Addr) (n c : Nat) (fs : List FrV) : Prop :=
  ∃ ts : List TFr, ts.map TFr.f = fs ∧ fs.length = n ∧ n ≤ c ∧ Reads w B 3 A n (FrS ts) ∧ ∀ t ∈ ts, RI w B t.A t.f.locals.length t.c t.f.locals

section
variable {w w' : World} {B n c : Nat} {A : Option Addr}
theorem RG.keep {l : List FrV} (h : RG w B A n c l) (hk : ∀ p : Addr, p.block < B → w'.cell? p = w.cell? p) : RG w' B A n c l := by
  obtain ⟨ts, h1, h2, h3, h4, h5⟩ := h
  exact ⟨ts, h1, h2, h3, h4.keep hk, fun t ht => (h5 t ht).keep hk⟩
theorem RG.more {B' : Nat} {l : List FrV} (h : RG w B A n c l) (hB : B ≤ B') : RG w B' A n c l := by
  obtain ⟨ts, h1, h2, h3, h4, h5⟩ := h
  exact ⟨ts, h1, h2, h3, h4.more hB, fun t ht => (h5 t ht).more hB⟩
/-- The three cells of an element, as the walk has them. -/
theorem Reads.triple {w : World} {B n k : Nat} {A : Option Addr} {xs : List Value} (h : Reads w B 3 A n xs) (hk : k < n) {u v z : Value} (hu : xs[k * 3]? = some u) (hv : xs[k * 3 + 1]? = some v) (hz : xs[k * 3 + 2]? = some z) :
    ∃ ad, A = some ad ∧ ad.block < B ∧ w.cell? (ad.add (k * 3)) = some u ∧ w.cell? ⟨(ad.add (k * 3)).block, (ad.add (k * 3)).off + 1, none⟩ = some v ∧ w.cell? ⟨(ad.add (k * 3)).block, (ad.add (k * 3)).off + 2, none⟩ = some z := by
  obtain ⟨ad, e, hb, hc⟩ := h.2 (by omega)
  subst e
  have hs := h.spot (by omega) (by omega)
  have hq : ∀ d : Nat, d ≠ 0 → (⟨(ad.add (k * 3)).block, (ad.add (k * 3)).off + d, none⟩ : Addr) = ad.add (k * 3 + d) := by
    intro d hd
    obtain ⟨b, o, sp⟩ := ad
    simp at hs
    subst hs
    unfold Addr.add
    by_cases h0 : k * 3 = 0 <;> simp [h0, hd, Nat.add_assoc]
  exact ⟨ad, rfl, hb, hc _ u hu, by rw [hq 1 (by omega)]; exact hc _ v hv, by rw [hq 2 (by omega)]; exact hc _ z hz⟩
theorem RG.at_ {l : List FrV} (h : RG w B A n c l) {k : Nat} (hk : k < n) :
    ∃ (ad : Addr) (t : TFr), A = some ad ∧ ad.block < B ∧ l[k]? = some t.f ∧ w.cell? (ad.add (k * 3)) = some (.int .i64 t.f.func) ∧ w.cell? ⟨(ad.add (k * 3)).block, (ad.add (k * 3)).off + 1, none⟩ = some (.int .i64 t.f.pc) ∧
      w.cell? ⟨(ad.add (k * 3)).block, (ad.add (k * 3)).off + 2, none⟩ = some (.slice t.A t.f.locals.length t.c) ∧ RI w B t.A t.f.locals.length t.c t.f.locals := by
  obtain ⟨ts, rfl, h2, _, h4, h5⟩ := h
  rw [List.length_map] at h2
  have hz : ts[k]? = some (ts[k]'(by omega)) := List.getElem?_eq_getElem (by omega)
  obtain ⟨hu, hv, hx⟩ := FrS_at hz
  obtain ⟨ad, e, hb, c1, c2, c3⟩ := h4.triple hk hu hv hx
  exact ⟨ad, _, e, hb, by simp [hz], c1, c2, c3, h5 _ (List.mem_of_getElem? hz)⟩
end

/-! ### Rows that stand in the blocks of D -/
def ReadsD (w : World) (D : Nat → Prop) (size : Nat) (A : Option Addr) (n : Nat) (xs : List Value) : Prop :=
  xs.length = n * size ∧ (0 < n → ∃ ad, A = some ad ∧ D ad.block ∧ ∀ j u, xs[j]? = some u → w.cell? (ad.add j) = some u)
section
variable {w w' : World} {D E : Nat → Prop} {size n c : Nat} {A : Option Addr} {xs : List Value}
theorem ReadsD.reads (h : ReadsD w D size A n xs) (hs : 0 < size) : Reads w w.heap.size size A n xs := by
  refine ⟨h.1, fun hn => ?_⟩
  obtain ⟨ad, e, _, hc⟩ := h.2 hn
  refine ⟨ad, e, ?_, hc⟩
  have hl : 0 < xs.length := by rw [h.1]; exact Nat.mul_pos hn hs
  have := World.block_lt_of_cell? _ _ (hc 0 _ (List.getElem?_eq_getElem hl))
  rwa [block_of_add] at this
theorem ReadsD.keep (h : ReadsD w D size A n xs) (hk : ∀ p : Addr, D p.block → p.block < w.heap.size → w'.cell? p = w.cell? p) : ReadsD w' D size A n xs := by
  refine ⟨h.1, fun hn => ?_⟩
  obtain ⟨ad, e, hd, hc⟩ := h.2 hn
  refine ⟨ad, e, hd, fun j u hj => ?_⟩
  have h1 := hc j u hj
  have h2 := World.block_lt_of_cell? _ _ h1
  rw [hk _ (by rw [block_of_add]; exact hd) h2, h1]
theorem ReadsD.mono (h : ReadsD w D size A n xs) (hm : ∀ i, D i → i < w.heap.size → E i) (hs : 0 < size) : ReadsD w E size A n xs := by
  refine ⟨h.1, fun hn => ?_⟩
  obtain ⟨ad, e, hd, hc⟩ := h.2 hn
  have hl : 0 < xs.length := by rw [h.1]; exact Nat.mul_pos hn hs
  have h2 := World.block_lt_of_cell? _ _ (hc 0 _ (List.getElem?_eq_getElem hl))
  rw [block_of_add] at h2
  exact ⟨ad, e, hm _ hd h2, hc⟩
theorem ReadsD.of_own {base : Nat} {e : TypeId} (h : w.ownsRow base e size (.slice A n c) n xs) : ReadsD w (fun i => base ≤ i) size A n xs := by
  refine ⟨h.1, fun hn => ?_⟩
  obtain ⟨ad, e, hb, hc⟩ := (Reads.of_own h).2 hn
  exact ⟨ad, e, by
    obtain ⟨g, cap, hv, hg, _⟩ := h.form hn
    injection hv with h1
    rw [h1] at e
    injection e with e
    subst e
    exact hg, hc⟩
theorem ReadsD.of_reads {B : Nat} (h : Reads w B size A n xs) : ReadsD w (fun i => i < B) size A n xs := h
end
def RID (w : World) (D : Nat → Prop) (A : Option Addr) (n c : Nat) (l : List Int) : Prop := l.length = n ∧ n ≤ c ∧ ReadsD w D 1 A n (IS l)
def RGD (w : World) (D : Nat → Prop) (A : Option Addr) (n c : Nat) (fs : List FrV) : Prop :=
  ∃ ts : List TFr, ts.map TFr.f = fs ∧ fs.length = n ∧ n ≤ c ∧ ReadsD w D 3 A n (FrS ts) ∧ ∀ t ∈ ts, RID w D t.A t.f.locals.length t.c t.f.locals
section
variable {w w' : World} {D E : Nat → Prop} {n c : Nat} {A : Option Addr}
theorem RID.ri {l : List Int} (h : RID w D A n c l) : RI w w.heap.size A n c l := ⟨h.1, h.2.1, h.2.2.reads (by omega)⟩
theorem RID.keep {l : List Int} (h : RID w D A n c l) (hk : ∀ p : Addr, D p.block → p.block < w.heap.size → w'.cell? p = w.cell? p) : RID w' D A n c l := ⟨h.1, h.2.1, h.2.2.keep hk⟩
theorem RID.mono {l : List Int} (h : RID w D A n c l) (hm : ∀ i, D i → i < w.heap.size → E i) : RID w E A n c l := ⟨h.1, h.2.1, h.2.2.mono hm (by omega)⟩
theorem RGD.keep {l : List FrV} (h : RGD w D A n c l) (hk : ∀ p : Addr, D p.block → p.block < w.heap.size → w'.cell? p = w.cell? p) : RGD w' D A n c l := by
  obtain ⟨ts, h1, h2, h3, h4, h5⟩ := h
  exact ⟨ts, h1, h2, h3, h4.keep hk, fun t ht => (h5 t ht).keep hk⟩
theorem RGD.mono {l : List FrV} (h : RGD w D A n c l) (hm : ∀ i, D i → i < w.heap.size → E i) : RGD w E A n c l := by
  obtain ⟨ts, h1, h2, h3, h4, h5⟩ := h
  exact ⟨ts, h1, h2, h3, h4.mono hm (by omega), fun t ht => (h5 t ht).mono hm⟩
theorem RGD.rg {l : List FrV} (h : RGD w D A n c l) : RG w w.heap.size A n c l := by
  obtain ⟨ts, h1, h2, h3, h4, h5⟩ := h
  exact ⟨ts, h1, h2, h3, h4.reads (by omega), fun t ht => (h5 t ht).ri⟩
end

/-- The addresses, and the rooms, of a thread's rows. -/
structure TH where
  fA : Option Addr
  fc : Nat
  sA : Option Addr
  sc : Nat
/-- A thread that stands in memory, in the blocks of D. -/
structure RT (w : World) (D : Nat → Prop) (h : TH) (t : TV) : Prop where
  frames : RGD w D h.fA t.frames.length h.fc t.frames
  stack : RID w D h.sA t.stack.length h.sc t.stack
theorem RT.keep {w w' : World} {D : Nat → Prop} {h : TH} {t : TV} (g : RT w D h t) (hk : ∀ q : Addr, D q.block → q.block < w.heap.size → w'.cell? q = w.cell? q) : RT w' D h t := ⟨g.1.keep hk, g.2.keep hk⟩
theorem RT.mono {w : World} {D E : Nat → Prop} {h : TH} {t : TV} (g : RT w D h t) (hm : ∀ i, D i → i < w.heap.size → E i) : RT w E h t := ⟨g.1.mono hm, g.2.mono hm⟩
theorem RT.below {w w' : World} {D : Nat → Prop} {h : TH} {t : TV} (g : RT w D h t) (hb : Below w.heap.size w w') : RT w' D h t := g.keep fun _ _ hp => hb.cell hp
theorem RT.alloc {w : World} {D : Nat → Prop} {h : TH} {t : TV} (g : RT w D h t) (o : Obj) : RT (w.alloc o) D h t := g.below ((Below.refl _ _).alloc (Nat.le_refl _) _)
theorem Blk.set5 {w : World} {g : Nat} {t : TypeId} {v0 v1 v2 v3 v4 : Value} (h : Blk w g t #[v0, v1, v2, v3, v4]) (u0 u1 u2 u3 u4 : Value) :
    Blk (((((w.setCell ⟨g, 0, none⟩ u0).setCell ⟨g, 1, none⟩ u1).setCell ⟨g, 2, none⟩ u2).setCell ⟨g, 3, none⟩ u3).setCell ⟨g, 4, none⟩ u4) g t #[u0, u1, u2, u3, u4] := by
  simpa using ((((h.set_ 0 u0).set_ 1 u1).set_ 2 u2).set_ 3 u3).set_ 4 u4
theorem Fr.set5 {S : Nat → Prop} {a w : World} {g : Nat} (h : Fr S a w) (hg : S g ∨ a.heap.size ≤ g) (u0 u1 u2 u3 u4 : Value) :
    Fr S a (((((w.setCell ⟨g, 0, none⟩ u0).setCell ⟨g, 1, none⟩ u1).setCell ⟨g, 2, none⟩ u2).setCell ⟨g, 3, none⟩ u3).setCell ⟨g, 4, none⟩ u4) :=
  ((((h.setCell (p := ⟨g, 0, none⟩) hg u0).setCell (p := ⟨g, 1, none⟩) hg u1).setCell (p := ⟨g, 2, none⟩) hg u2).setCell (p := ⟨g, 3, none⟩) hg u3).setCell (p := ⟨g, 4, none⟩) hg u4
theorem Blk.set3 {w : World} {g : Nat} {t : TypeId} {v0 v1 v2 : Value} (h : Blk w g t #[v0, v1, v2]) (u0 u1 u2 : Value) :
    Blk (((w.setCell ⟨g, 0, none⟩ u0).setCell ⟨g, 1, none⟩ u1).setCell ⟨g, 2, none⟩ u2) g t #[u0, u1, u2] := by
  simpa using ((h.set_ 0 u0).set_ 1 u1).set_ 2 u2
theorem Fr.set3 {S : Nat → Prop} {a w : World} {g : Nat} (h : Fr S a w) (hg : S g ∨ a.heap.size ≤ g) (u0 u1 u2 : Value) :
    Fr S a (((w.setCell ⟨g, 0, none⟩ u0).setCell ⟨g, 1, none⟩ u1).setCell ⟨g, 2, none⟩ u2) :=
  ((h.setCell (p := ⟨g, 0, none⟩) hg u0).setCell (p := ⟨g, 1, none⟩) hg u1).setCell (p := ⟨g, 2, none⟩) hg u2
section
variable {P : Program}
/-- Results: a variable that lies in memory, and one in a slot. -/
theorem results_cell_slot {fn : Func} {p q : Tmp} {ty : TypeId} (h : fn.results = #[.cell p ty, .tmp q]) (tmps : Array Value) (w : World) (g : Nat) (t : TypeId) (cs : Array Value) (fr : Nat × Nat) (d : TypeDesc) (u : Value)
    (hp : tmps.getD p undef = .pointer (some ⟨g, 0, none⟩)) (hq : tmps.getD q undef = u) (hg : w.heap[g]? = some (.cells cs t fr))
    (hu : P.underlying ty = some d) (hd : (match d with | .struct _ | .array _ _ => true | _ => false) = true) (hi : (P.info? ty).map (·.size) = some cs.size) :
    (results fn tmps).run P w = .ok (.tuple #[.agg cs, u]) w := by
  have hp' : tmps[p]?.getD undef = .pointer (some ⟨g, 0, none⟩) := by simpa using hp
  have hq' : tmps[q]?.getD undef = u := by simpa using hq
  simp [results, h, hp', hq', asAddr, run_loadVar_row w g t ty cs fr d hg hu hd hi]
end
/-- A row of numbers of one's own stands in memory. -/
theorem rid_of_own {w : World} {base n : Nat} {A : Option Addr} {c : Nat} {l : List Int} (h : w.ownsRow base 3 1 (.slice A n c) n (IS l)) (hl : l.length = n) : RID w (fun i => base ≤ i) A n c l := by
  obtain ⟨A', c', e, hc, hr⟩ := own_slice h
  injection e with e1 e2 e3
  subst e1 e3
  exact ⟨hl, hc, ReadsD.of_own h⟩
/-- Frames of one's own stand in memory. -/
theorem rgd_of_own {w : World} {D : Nat → Prop} {base n : Nat} {A : Option Addr} {c : Nat} {ts : List TFr} {fs : List FrV} (h : w.ownsRow base 67 3 (.slice A n c) n (FrS ts)) (hf : ts.map TFr.f = fs) (hD : ∀ i, base ≤ i → D i) (hx : ∀ x ∈ ts, RID w D x.A x.f.locals.length x.c x.f.locals) : RGD w D A n c fs := by
  obtain ⟨A', c', e, hc, hr⟩ := own_slice h
  injection e with e1 e2 e3
  subst e1 e3
  have hl := h.1
  rw [FrS_length] at hl
  exact ⟨ts, hf, by rw [← hf, List.length_map]; omega, hc, (ReadsD.of_own h).mono (fun i hi _ => hD i hi) (by omega), hx⟩
/-- A frame in a row that was just laid. -/
theorem own_frame (W : World) (fr : FrV) (A : Option Addr) (c m : Nat) (hm : fr.locals.length = m) :
    (W.alloc (.cells #[.int .i64 fr.func, .int .i64 fr.pc, .slice A m c] 67)).ownsRow W.heap.size 67 3 (.slice (some ⟨W.heap.size, 0, none⟩) 1 1) 1 (FrS [⟨fr, A, c⟩]) := by
  have := World.ownsRow_lit (base := W.heap.size) (e := 67) (size := 3) W #[.int .i64 fr.func, .int .i64 fr.pc, .slice A m c] 1 (Nat.le_refl _) (by decide) rfl
  subst hm
  simpa [FrS, flat3, TFr.cells] using this
end Go.Proofs.Ytkciedcfphhenaa
