
/-
  Programs in memory: rows of numbers, of instructions, of functions, of rows. No function of the landed code is spoken of here.
-/
import Derived.Test.YtmjbfobjndiecaaPrP
import Derived.Test.YtmjbfobjndiecaaBytes
import Derived.Deep.Slices
import Derived.Deep.Fields
import Derived.ChangeSame
namespace Go.Proofs.Ytmjbfobjndiecaa
open Go.ChangeShapes Go.WideShapes Go.Deep Go.RowKit Plain

/-- Pairs, one behind the other. -/
def flat2 (l : List (Value × Value)) : List Value := l.flatMap fun p => [p.1, p.2]
theorem flat2_nil : flat2 [] = [] := rfl
theorem flat2_cons (p : Value × Value) (l : List (Value × Value)) : flat2 (p :: l) = p.1 :: p.2 :: flat2 l := by simp [flat2]
theorem flat2_append (l m : List (Value × Value)) : flat2 (l ++ m) = flat2 l ++ flat2 m := by simp [flat2]
theorem flat2_length (l : List (Value × Value)) : (flat2 l).length = l.length * 2 := by
  induction l with
  | nil => rfl
  | cons p r ih => rw [flat2_cons]; simp [ih]; omega
theorem flat2_at : ∀ (l : List (Value × Value)) (i : Nat) (p : Value × Value), l[i]? = some p → (flat2 l)[i * 2]? = some p.1 ∧ (flat2 l)[i * 2 + 1]? = some p.2
  | [], i, p, h => by simp at h
  | q :: r, 0, p, h => by simp at h; subst h; simp [flat2_cons]
  | q :: r, i + 1, p, h => by
    have := flat2_at r i p (by simpa using h)
    rw [flat2_cons, show (i + 1) * 2 = i * 2 + 1 + 1 by omega]
    simpa using this
theorem flat2_set : ∀ (l : List (Value × Value)) (i : Nat) (u v : Value), i < l.length → ((flat2 l).set (i * 2) u).set (i * 2 + 1) v = flat2 (l.set i (u, v))
  | [], i, u, v, h => by simp at h
  | q :: r, 0, u, v, h => by simp [flat2_cons]
  | q :: r, i + 1, u, v, h => by
    have := flat2_set r i u v (by simpa using h)
    rw [flat2_cons, show (i + 1) * 2 = i * 2 + 1 + 1 by omega]
    simp only [List.set_cons_succ, flat2_cons, this]
theorem flat2_set2 : ∀ (l : List (Value × Value)) (i : Nat) (p : Value × Value) (v : Value), l[i]? = some p → (flat2 l).set (i * 2 + 1) v = flat2 (l.set i (p.1, v))
  | [], i, p, v, h => by simp at h
  | q :: r, 0, p, v, h => by simp at h; subst h; simp [flat2_cons]
  | q :: r, i + 1, p, v, h => by
    have := flat2_set2 r i p v (by simpa using h)
    rw [flat2_cons, show (i + 1) * 2 + 1 = i * 2 + 1 + 1 + 1 by omega]
    simp only [List.set_cons_succ, flat2_cons, this]
theorem flat2_set1 : ∀ (l : List (Value × Value)) (i : Nat) (p : Value × Value) (v : Value), l[i]? = some p → (flat2 l).set (i * 2) v = flat2 (l.set i (v, p.2))
  | [], i, p, v, h => by simp at h
  | q :: r, 0, p, v, h => by simp at h; subst h; simp [flat2_cons]
  | q :: r, i + 1, p, v, h => by
    have := flat2_set1 r i p v (by simpa using h)
    rw [flat2_cons, show (i + 1) * 2 = i * 2 + 1 + 1 by omega]
    simp only [List.set_cons_succ, flat2_cons, this]

/-- Numbers as cells. -/
def IS (l : List Int) : List Value := l.map fun n => .int .i64 n
/-- Instructions as cells. -/
def CS (c : List IV) : List Value := flat2 (c.map fun i => (.int .i64 i.op, .int .i64 i.a))
/-- A function with the address, and the room, of its instructions. -/
structure TF where
  f : FV
  A : Option Addr
  c : Nat
/-- A row of numbers with its address, and its room. -/
structure TL where
  l : List Int
  A : Option Addr
  c : Nat
def TF.cells (t : TF) : Value × Value := (.int .i64 t.f.locals, .slice t.A t.f.code.length t.c)
def FS (ts : List TF) : List Value := flat2 (ts.map TF.cells)
def LS (ts : List TL) : List Value := ts.map fun t => .slice t.A t.l.length t.c

theorem IS_length (l : List Int) : (IS l).length = l.length := by simp [IS]
theorem IS_append (l m : List Int) : IS l ++ IS m = IS (l ++ m) := by simp [IS]
theorem IS_at {l : List Int} {i : Nat} {n : Int} (h : l[i]? = some n) : (IS l)[i]? = some (.int .i64 n) := by simp [IS, h]
theorem CS_length (c : List IV) : (CS c).length = c.length * 2 := by simp [CS, flat2_length]
theorem CS_append (c d : List IV) : CS c ++ CS d = CS (c ++ d) := by simp [CS, flat2_append]
theorem CS_at {c : List IV} {i : Nat} {x : IV} (h : c[i]? = some x) : (CS c)[i * 2]? = some (.int .i64 x.op) ∧ (CS c)[i * 2 + 1]? = some (.int .i64 x.a) :=
  flat2_at _ i (.int .i64 x.op, .int .i64 x.a) (by simp [h])
theorem CS_set (c : List IV) (i : Nat) (x : IV) (h : i < c.length) : ((CS c).set (i * 2) (.int .i64 x.op)).set (i * 2 + 1) (.int .i64 x.a) = CS (c.set i x) := by
  unfold CS
  rw [flat2_set _ _ _ _ (by simpa using h), List.map_set]
theorem FS_length (ts : List TF) : (FS ts).length = ts.length * 2 := by simp [FS, flat2_length]
theorem FS_append (ts us : List TF) : FS ts ++ FS us = FS (ts ++ us) := by simp [FS, flat2_append]
theorem FS_at {ts : List TF} {i : Nat} {t : TF} (h : ts[i]? = some t) : (FS ts)[i * 2]? = some (.int .i64 t.f.locals) ∧ (FS ts)[i * 2 + 1]? = some (.slice t.A t.f.code.length t.c) :=
  flat2_at _ i t.cells (by simp [h])
theorem LS_length (ts : List TL) : (LS ts).length = ts.length := by simp [LS]
theorem LS_append (ts us : List TL) : LS ts ++ LS us = LS (ts ++ us) := by simp [LS]
theorem LS_at {ts : List TL} {i : Nat} {t : TL} (h : ts[i]? = some t) : (LS ts)[i]? = some (.slice t.A t.l.length t.c) := by simp [LS, h]
theorem IS_one (l : List Int) : ∀ u ∈ IS l, u.oneCell' = true := by
  intro u hu
  obtain ⟨n, _, rfl⟩ := List.mem_map.1 hu
  rfl
theorem flat2_one (l : List (Value × Value)) (h : ∀ p ∈ l, p.1.oneCell' = true ∧ p.2.oneCell' = true) : ∀ u ∈ flat2 l, u.oneCell' = true := by
  intro u hu
  obtain ⟨p, hp, hm⟩ := List.mem_flatMap.1 hu
  simp at hm
  rcases hm with rfl | rfl
  · exact (h p hp).1
  · exact (h p hp).2
theorem CS_one (c : List IV) : ∀ u ∈ CS c, u.oneCell' = true := flat2_one _ fun p hp => by
  obtain ⟨i, _, rfl⟩ := List.mem_map.1 hp
  exact ⟨rfl, rfl⟩
theorem FS_one (ts : List TF) : ∀ u ∈ FS ts, u.oneCell' = true := flat2_one _ fun p hp => by
  obtain ⟨t, _, rfl⟩ := List.mem_map.1 hp
  exact ⟨rfl, rfl⟩
theorem LS_one (ts : List TL) : ∀ u ∈ LS ts, u.oneCell' = true := by
  intro u hu
  obtain ⟨t, _, rfl⟩ := List.mem_map.1 hu
  rfl

/-- Numbers, instructions, functions, rows that stand in memory, in blocks below B. -/
def RI (w : World) (B : Nat) (A : Option Addr) (n c : Nat) (l : List Int) : Prop := l.length = n ∧ n ≤ c ∧ Reads w B 1 A n (IS l)
def RC (w : World) (B : Nat) (A : Option Addr) (n c : Nat) (l : List IV) : Prop := l.length = n ∧ n ≤ c ∧ Reads w B 2 A n (CS l)
def RF (w : World) (B : Nat) (A : Option Addr) (n c : Nat) (fs : List FV) : Prop :=
  ∃ ts : List TF, ts.map TF.f = fs ∧ fs.length = n ∧ n ≤ c ∧ Reads w B 2 A n (FS ts) ∧ ∀ t ∈ ts, RC w B t.A t.f.code.length t.c t.f.code
def RL (w : World) (B : Nat) (A : Option Addr) (n c : Nat) (ls : List (List Int)) : Prop :=
  ∃ ts : List TL, ts.map TL.l = ls ∧ ls.length = n ∧ n ≤ c ∧ Reads w B 1 A n (LS ts) ∧ ∀ t ∈ ts, RI w B t.A t.l.length t.c t.l

section
variable {w w' : World} {B n c : Nat} {A : Option Addr}
theorem RI.keep {l : List Int} (h : RI w B A n c l) (hk : ∀ p : Addr, p.block < B → w'.cell? p = w.cell? p) : RI w' B A n c l := ⟨h.1, h.2.1, h.2.2.keep hk⟩
theorem RC.keep {l : List IV} (h : RC w B A n c l) (hk : ∀ p : Addr, p.block < B → w'.cell? p = w.cell? p) : RC w' B A n c l := ⟨h.1, h.2.1, h.2.2.keep hk⟩
theorem RF.keep {l : List FV} (h : RF w B A n c l) (hk : ∀ p : Addr, p.block < B → w'.cell? p = w.cell? p) : RF w' B A n c l := by
  obtain ⟨ts, h1, h2, h3, h4, h5⟩ := h
  exact ⟨ts, h1, h2, h3, h4.keep hk, fun t ht => (h5 t ht).keep hk⟩
theorem RL.keep {l : List (List Int)} (h : RL w B A n c l) (hk : ∀ p : Addr, p.block < B → w'.cell? p = w.cell? p) : RL w' B A n c l := by
  obtain ⟨ts, h1, h2, h3, h4, h5⟩ := h
  exact ⟨ts, h1, h2, h3, h4.keep hk, fun t ht => (h5 t ht).keep hk⟩
theorem RI.more {B' : Nat} {l : List Int} (h : RI w B A n c l) (hB : B ≤ B') : RI w B' A n c l := ⟨h.1, h.2.1, h.2.2.more hB⟩
theorem RC.more {B' : Nat} {l : List IV} (h : RC w B A n c l) (hB : B ≤ B') : RC w B' A n c l := ⟨h.1, h.2.1, h.2.2.more hB⟩
theorem RF.more {B' : Nat} {l : List FV} (h : RF w B A n c l) (hB : B ≤ B') : RF w B' A n c l := by
  obtain ⟨ts, h1, h2, h3, h4, h5⟩ := h
  exact ⟨ts, h1, h2, h3, h4.more hB, fun t ht => (h5 t ht).more hB⟩
theorem RL.more {B' : Nat} {l : List (List Int)} (h : RL w B A n c l) (hB : B ≤ B') : RL w B' A n c l := by
  obtain ⟨ts, h1, h2, h3, h4, h5⟩ := h
  exact ⟨ts, h1, h2, h3, h4.more hB, fun t ht => (h5 t ht).more hB⟩
end

/-- The addresses, and the rooms, of a program's rows. -/
structure PH where
  fA : Option Addr
  fc : Nat
  cA : Option Addr
  cc : Nat
  sA : Option Addr
  sc : Nat
  hA : Option Addr
  hc : Nat
  xA : Option Addr
  xc : Nat
/-- A program as cells. -/
def PC (h : PH) (p : PV) : Array Value :=
  #[.slice h.fA p.funcs.length h.fc, .int .i64 p.mutexes, .slice h.cA p.conds.length h.cc, .slice h.sA p.semas.length h.sc, .slice h.hA p.chans.length h.hc, .slice h.xA p.choices.length h.xc, .int .i64 p.threads]
/-- A program that stands in memory, in blocks below B. -/
structure RP (w : World) (B : Nat) (h : PH) (p : PV) : Prop where
  funcs : RF w B h.fA p.funcs.length h.fc p.funcs
  conds : RI w B h.cA p.conds.length h.cc p.conds
  semas : RI w B h.sA p.semas.length h.sc p.semas
  chans : RI w B h.hA p.chans.length h.hc p.chans
  choices : RL w B h.xA p.choices.length h.xc p.choices

theorem RP.keep {w w' : World} {B : Nat} {h : PH} {p : PV} (g : RP w B h p) (hk : ∀ q : Addr, q.block < B → w'.cell? q = w.cell? q) : RP w' B h p :=
  ⟨g.1.keep hk, g.2.keep hk, g.3.keep hk, g.4.keep hk, g.5.keep hk⟩
theorem RP.more {w : World} {B B' : Nat} {h : PH} {p : PV} (g : RP w B h p) (hB : B ≤ B') : RP w B' h p :=
  ⟨g.1.more hB, g.2.more hB, g.3.more hB, g.4.more hB, g.5.more hB⟩
theorem RP.below {w w' : World} {B : Nat} {h : PH} {p : PV} (g : RP w B h p) (hb : Below B w w') : RP w' B h p := g.keep fun _ hp => hb.cell hp
theorem RP.alloc {w : World} {B : Nat} {h : PH} {p : PV} (g : RP w B h p) (hB : B ≤ w.heap.size) (o : Obj) : RP (w.alloc o) B h p := g.keep fun q hq => World.cell?_alloc_lt w o q (by omega)
theorem RP.drewN {w : World} {B : Nat} {h : PH} {p : PV} (g : RP w B h p) (k : Nat) : RP (w.drewN k) B h p := g.keep fun _ _ => rfl
theorem RP.drew {w : World} {B : Nat} {h : PH} {p : PV} (g : RP w B h p) : RP w.drew B h p := g.keep fun _ _ => rfl

theorem Reads.spot {w : World} {B size n : Nat} {x : Addr} {xs : List Value} (h : Reads w B size (some x) n xs) (hn : 0 < n) (hs : 0 < size) : x.spot = none := by
  obtain ⟨ad, e, _, hc⟩ := h.2 hn
  injection e with e
  subst e
  have h0 := hc 0 (xs[0]'(by have := h.1; have := Nat.mul_pos hn hs; omega)) (List.getElem?_eq_getElem _)
  simpa [Addr.add] using World.cell?_spot h0
/-- The two cells of an element, as the walk has them. -/
theorem Reads.pair {w : World} {B n k : Nat} {A : Option Addr} {xs : List Value} (h : Reads w B 2 A n xs) (hk : k < n) {u v : Value} (hu : xs[k * 2]? = some u) (hv : xs[k * 2 + 1]? = some v) :
    ∃ ad, A = some ad ∧ ad.block < B ∧ w.cell? (ad.add (k * 2)) = some u ∧ w.cell? ⟨(ad.add (k * 2)).block, (ad.add (k * 2)).off + 1, none⟩ = some v := by
  obtain ⟨ad, e, hb, hc⟩ := h.2 (by omega)
  subst e
  have hs := h.spot (by omega) (by omega)
  refine ⟨ad, rfl, hb, hc _ u hu, ?_⟩
  have h2 := hc _ v hv
  rw [← h2]
  obtain ⟨b, o, sp⟩ := ad
  simp at hs
  subst hs
  congr 1
  unfold Addr.add
  by_cases h0 : k * 2 = 0 <;> simp [h0, Nat.add_assoc]
theorem RC.at_ {w : World} {B n c : Nat} {A : Option Addr} {l : List IV} (h : RC w B A n c l) {k : Nat} (hk : k < n) :
    ∃ ad i, A = some ad ∧ ad.block < B ∧ l[k]? = some i ∧ w.cell? (ad.add (k * 2)) = some (.int .i64 i.op) ∧ w.cell? ⟨(ad.add (k * 2)).block, (ad.add (k * 2)).off + 1, none⟩ = some (.int .i64 i.a) := by
  obtain ⟨h1, _, h3⟩ := h
  have hz : l[k]? = some (l[k]'(by omega)) := List.getElem?_eq_getElem (by omega)
  obtain ⟨hu, hv⟩ := CS_at hz
  obtain ⟨ad, e, hb, c1, c2⟩ := h3.pair hk hu hv
  exact ⟨ad, _, e, hb, hz, c1, c2⟩
theorem RF.at_ {w : World} {B n c : Nat} {A : Option Addr} {l : List FV} (h : RF w B A n c l) {k : Nat} (hk : k < n) :
    ∃ (ad : Addr) (t : TF), A = some ad ∧ ad.block < B ∧ l[k]? = some t.f ∧ w.cell? (ad.add (k * 2)) = some (.int .i64 t.f.locals) ∧ w.cell? ⟨(ad.add (k * 2)).block, (ad.add (k * 2)).off + 1, none⟩ = some (.slice t.A t.f.code.length t.c) ∧ RC w B t.A t.f.code.length t.c t.f.code := by
  obtain ⟨ts, rfl, h2, _, h4, h5⟩ := h
  rw [List.length_map] at h2
  have hz : ts[k]? = some (ts[k]'(by omega)) := List.getElem?_eq_getElem (by omega)
  obtain ⟨hu, hv⟩ := FS_at hz
  obtain ⟨ad, e, hb, c1, c2⟩ := h4.pair hk hu hv
  exact ⟨ad, _, e, hb, by simp [hz], c1, c2, h5 _ (List.mem_of_getElem? hz)⟩
theorem RL.at_ {w : World} {B n c : Nat} {A : Option Addr} {l : List (List Int)} (h : RL w B A n c l) {k : Nat} (hk : k < n) :
    ∃ (ad : Addr) (t : TL), A = some ad ∧ ad.block < B ∧ l[k]? = some t.l ∧ w.cell? (ad.add k) = some (.slice t.A t.l.length t.c) ∧ RI w B t.A t.l.length t.c t.l := by
  obtain ⟨ts, rfl, h2, _, h4, h5⟩ := h
  rw [List.length_map] at h2
  have hz : ts[k]? = some (ts[k]'(by omega)) := List.getElem?_eq_getElem (by omega)
  obtain ⟨ad, u, e, hb, hu, hc⟩ := h4.at_ hk
  rw [LS_at hz] at hu
  exact ⟨ad, _, e, hb, by simp [hz], by rw [hc, ← hu], h5 _ (List.mem_of_getElem? hz)⟩
theorem RI.at_ {w : World} {B n c : Nat} {A : Option Addr} {l : List Int} (h : RI w B A n c l) {k : Nat} (hk : k < n) :
    ∃ ad z, A = some ad ∧ ad.block < B ∧ l[k]? = some z ∧ w.cell? (ad.add k) = some (.int .i64 z) := by
  obtain ⟨h1, _, h3⟩ := h
  obtain ⟨ad, u, e, hb, hu, hc⟩ := h3.at_ hk
  have hz : l[k]? = some (l[k]'(by omega)) := List.getElem?_eq_getElem (by omega)
  rw [IS_at hz] at hu
  exact ⟨ad, _, e, hb, hz, by rw [hc, ← hu]⟩
end Go.Proofs.Ytmjbfobjndiecaa
