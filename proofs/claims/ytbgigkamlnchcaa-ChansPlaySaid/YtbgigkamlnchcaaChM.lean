
/-
  Rows of numbers, rows of rows, and a state's channels in memory. No function of the landed code is spoken of here.
-/
import Derived.Test.YtbgigkamlnchcaaChP
import Derived.Test.YtbgigkamlnchcaaRgM
import Derived.Test.YtbgigkamlnchcaaRgOwn
set_option linter.unusedVariables false
set_option linter.unusedSimpArgs false
namespace Go.Proofs.Ytbgigkamlnchcaa
open Go.RowKit Plain

/-- A row of numbers that is read, in blocks of D. -/
def RN (w : World) (D : Nat → Prop) (A : Option Addr) (c : Nat) (L : List Int) : Prop :=
  L.length ≤ c ∧ (0 < L.length → ∃ ad, A = some ad ∧ D ad.block ∧ ad.block < w.heap.size ∧ ∀ j x, L[j]? = some x → w.cell? (ad.add j) = some (EnI x))
section
variable {w w' : World} {D E S : Nat → Prop} {A : Option Addr} {c : Nat} {L : List Int}
theorem RN.nil (w : World) (D : Nat → Prop) (A : Option Addr) (c : Nat) : RN w D A c [] := ⟨by simp, fun h => by simp at h⟩
theorem RN.fr (h : RN w D A c L) (hf : Fr S w w') (hS : ∀ i, D i → i < w.heap.size → ¬ S i) : RN w' D A c L :=
  ⟨h.1, fun hn => by
    obtain ⟨ad, e, hd, hb, hc⟩ := h.2 hn
    exact ⟨ad, e, hd, Nat.lt_of_lt_of_le hb hf.size, fun j x hj => (hf.cell (p := ad.add j) (by rw [block_of_add]; exact hb) (by rw [block_of_add]; exact hS _ hd hb)).trans (hc j x hj)⟩⟩
theorem RN.mono (h : RN w D A c L) (hm : ∀ i, D i → i < w.heap.size → E i) : RN w E A c L :=
  ⟨h.1, fun hn => by
    obtain ⟨ad, e, hd, hb, hc⟩ := h.2 hn
    exact ⟨ad, e, hm _ hd hb, hb, hc⟩⟩
theorem RN.below {B : Nat} (h : RN w D A c L) (hb : Below B w w') (hB : w.heap.size ≤ B) : RN w' D A c L := h.fr (Fr.of_below hb) (fun i _ hi h => by omega)
theorem RN.drewN (h : RN w D A c L) (k : Nat) : RN (w.drewN k) D A c L := h
theorem RN.alloc (h : RN w D A c L) (o : Obj) : RN (w.alloc o) D A c L := h.fr ((Fr.refl (fun _ => False) w).alloc o) (fun _ _ _ h => h)
theorem RN.reads (h : RN w D A c L) : Reads w w.heap.size 1 A L.length (L.map EnI) :=
  ⟨by simp, fun hn => by
    obtain ⟨ad, e, hd, hb, hc⟩ := h.2 hn
    refine ⟨ad, e, hb, fun j u hj => ?_⟩
    have hjl : j < L.length := by
      have := (List.getElem?_eq_some_iff.1 hj).1
      simpa using this
    have hx : L[j]? = some L[j] := List.getElem?_eq_getElem hjl
    rw [hc j _ hx]
    simp [hx] at hj
    rw [← hj]⟩
theorem RN.of_own {base : Nat} (h : OwnI w base (.slice A L.length c) L) : RN w (fun i => base ≤ i) A c L := by
  obtain ⟨A', c', e, hc, hr⟩ := h.slice
  injection e with e1 e2 e3
  subst e1 e3
  refine ⟨hc, fun hn => ?_⟩
  obtain ⟨ad, e, hb, hcell⟩ := hr.2 hn
  subst e
  exact ⟨ad, rfl, (h.lt ad.block rfl).1, hb, fun j x hj => hcell j _ (by simp [hj])⟩
theorem RN.of_own_n {base n : Nat} (hn : L.length = n) (h : OwnI w base (.slice A n c) L) : RN w (fun i => base ≤ i) A c L := by
  subst hn
  exact RN.of_own h
/-- The row without its first one, cut to its own length. -/
theorem RN.tail {y : Int} {r : List Int} (h : RN w D A c (y :: r)) : RN w D (if (y :: r).length = 1 then A else A.map (·.add 1)) r.length r := by
  refine ⟨Nat.le_refl _, fun hn => ?_⟩
  obtain ⟨ad, e, hd, hb, hc⟩ := h.2 (by simp)
  subst e
  rw [if_neg (by rw [List.length_cons]; omega)]
  refine ⟨ad.add 1, rfl, by rw [block_of_add]; exact hd, by rw [block_of_add]; exact hb, fun j x hj => ?_⟩
  rw [add_of_add, Nat.add_comm]
  exact hc (j + 1) x (by simpa using hj)
theorem RN.cell (h : RN w D A c L) {j : Nat} (hj : j < L.length) : ∃ ad, A = some ad ∧ D ad.block ∧ ad.block < w.heap.size ∧ w.cell? (ad.add j) = some (EnI L[j]) := by
  obtain ⟨ad, e, hd, hb, hc⟩ := h.2 (by omega)
  exact ⟨ad, e, hd, hb, hc j _ (List.getElem?_eq_getElem hj)⟩
end

section
variable {w w' : World} {D E S : Nat → Prop} {A : Option Addr} {c : Nat} {L : List Int}
theorem RN.at_ {l : List Int} (h : RN w E A c l) {i : Nat} (hi : i < l.length) : ∃ ad, A = some ad ∧ E ad.block ∧ ad.block < w.heap.size ∧ w.cell? (ad.add i) = some (.int .i64 (gn l i)) := by
  obtain ⟨ad, e, hd, hb, hc⟩ := h.2 (by omega)
  exact ⟨ad, e, hd, hb, hc i _ (gn_some hi)⟩
/-- A row without its first k, whatever room is behind it. -/
theorem RN.drop (h : RN w D A c L) (k : Nat) (hk : k < L.length) (c' : Nat) (hc' : L.length - k ≤ c') : RN w D (A.map (·.add k)) c' (L.drop k) := by
  refine ⟨by simpa using hc', fun hn => ?_⟩
  obtain ⟨ad, e, hd, hb, hc⟩ := h.2 (by omega)
  subst e
  refine ⟨ad.add k, rfl, by rw [block_of_add]; exact hd, by rw [block_of_add]; exact hb, fun j x hj => ?_⟩
  rw [add_of_add, Nat.add_comm]
  rw [List.getElem?_drop, Nat.add_comm] at hj
  exact hc (j + k) x hj
theorem RN.empty (w : World) (D : Nat → Prop) (A : Option Addr) (c : Nat) {l : List Int} (hl : l.length = 0) : RN w D A c l := by
  rw [List.eq_nil_of_length_eq_zero hl]
  exact RN.nil _ _ _ _
end
/-- A row of rows of one's own: its rows are read, in blocks of D. -/
def OwnS (w : World) (B : Nat) (D : Nat → Prop) (v : Value) (L : List (List Int)) : Prop :=
  ∃ vs, w.ownsRow B 25 1 v L.length vs ∧ ∀ (i : Nat) (l : List Int), L[i]? = some l → ∃ A c, vs[i]? = some (.slice A l.length c) ∧ RN w D A c l
theorem own_fr_type {w w' : World} {base : Nat} {e : TypeId} {n : Nat} {v : Value} {xs : List Value} (h : w.ownsRow base e 1 v n xs) (hf : ∀ i, v.ownBlock = some i → w'.heap[i]? = w.heap[i]?) : w'.ownsRow base e 1 v n xs := by
  refine ⟨h.1, ?_⟩
  rcases h.2 with h0 | ⟨g, cap, cur, rfl, hb, hc, hr⟩
  · exact .inl h0
  · exact .inr ⟨g, cap, cur, rfl, hb, (hf g rfl).trans hc, hr⟩
/-- A row's block. -/
theorem own_form {w : World} {base n : Nat} {e : TypeId} {v : Value} {xs : List Value} (h : w.ownsRow base e 1 v n xs) (hn : 0 < n) : ∃ b c, ∃ cs : List Value, v = .slice (some ⟨b, 0, none⟩) n c ∧ n ≤ c ∧ base ≤ b ∧ b < w.heap.size ∧ v.ownBlock = some b ∧ Blk w b e cs.toArray ∧ cs.length = c ∧ cs.take n = xs := by
  rcases h.2 with ⟨_, h0⟩ | ⟨g', cap, cur, rfl, hb, hh, hnc, hcm, hcs, ht⟩
  · omega
  · have hb2 : Blk w g' e cur := hh
    exact ⟨g', cap, cur.toList, rfl, hnc, hb, hb2.lt, rfl, by simpa using hb2, by simpa using hcs, by simpa using ht⟩
theorem own_set {w : World} {base n b c : Nat} {e : TypeId} {xs : List Value} (h : w.ownsRow base e 1 (.slice (some ⟨b, 0, none⟩) n c) n xs) (i : Nat) (u : Value) : (w.setCell ⟨b, i, none⟩ u).ownsRow base e 1 (.slice (some ⟨b, 0, none⟩) n c) n (xs.set i u) := by
  rcases h.2 with ⟨h0, _⟩ | ⟨g', cap, cur, h0, hb, hc, h1, h2, h3, h4⟩
  · cases h0
  · injection h0 with h5 h6 h7
    injection h5 with h5
    injection h5 with h5
    subst h5 h7
    have b1 : Blk w b e cur := hc
    have b2 := b1.set_ i u
    have hl := h.1
    refine ⟨by simpa using hl, .inr ⟨b, c, _, rfl, hb, b2, h1, h2, by simpa using h3, ?_⟩⟩
    rw [← h4]
    simp [List.take_set]
theorem own_set_far {w : World} {base n : Nat} {e : TypeId} {v : Value} {xs : List Value} (h : w.ownsRow base e 1 v n xs) {p : Addr} (hp : v.ownBlock ≠ some p.block) (u : Value) : (w.setCell p u).ownsRow base e 1 v n xs :=
  own_fr_type h fun i hi => Below.heap_setCell w p u i (fun e => hp (by rw [hi, e]))
theorem own_ne {w : World} {b1 b2 n1 n2 : Nat} {e1 e2 : TypeId} {v1 v2 : Value} {x1 x2 : List Value} (h1 : w.ownsRow b1 e1 1 v1 n1 x1) (h2 : w.ownsRow b2 e2 1 v2 n2 x2) (hne : e1 ≠ e2) {k : Nat} (h : v1.ownBlock = some k) : v2.ownBlock ≠ some k := by
  rcases h1.2 with ⟨rfl, _⟩ | ⟨g, cap, cur, rfl, _, hc, _⟩
  · simp [Value.ownBlock] at h
  · have : g = k := by simpa [Value.ownBlock] using h
    subst this
    exact own_blk_ne h2 (t := e1) (cs := cur) hc (Ne.symm hne)
theorem own_blk {w : World} {base n : Nat} {e : TypeId} {v : Value} {xs : List Value} (h : w.ownsRow base e 1 v n xs) {k : Nat} (hk : v.ownBlock = some k) : base ≤ k ∧ k < w.heap.size ∧ ∃ cs, Blk w k e cs := by
  rcases h.2 with ⟨rfl, _⟩ | ⟨g, cap, cur, rfl, hb, hc, _⟩
  · simp [Value.ownBlock] at hk
  · have : g = k := by simpa [Value.ownBlock] using hk
    subst this
    have hb2 : Blk w g e cur := hc
    exact ⟨hb, hb2.lt, cur, hb2⟩
theorem fr_set (w : World) (b i : Nat) (u : Value) : Fr (fun k => k = b) w (w.setCell ⟨b, i, none⟩ u) := (Fr.refl (fun k => k = b) w).setCell (p := ⟨b, i, none⟩) (.inl rfl) u
section
variable {w w' : World} {D E S : Nat → Prop} {B : Nat} {v : Value} {L : List (List Int)}
theorem OwnS.fr (h : OwnS w B D v L) (hf : Fr S w w') (hv : ∀ i, v.ownBlock = some i → ¬ S i) (hS : ∀ i, D i → i < w.heap.size → ¬ S i) : OwnS w' B D v L := by
  obtain ⟨vs, h1, h2⟩ := h
  refine ⟨vs, hf.own h1 hv, fun i l hi => ?_⟩
  obtain ⟨A, c, h3, h4⟩ := h2 i l hi
  exact ⟨A, c, h3, h4.fr hf hS⟩
theorem OwnS.mono (h : OwnS w B D v L) (hm : ∀ i, D i → i < w.heap.size → E i) : OwnS w B E v L := by
  obtain ⟨vs, h1, h2⟩ := h
  refine ⟨vs, h1, fun i l hi => ?_⟩
  obtain ⟨A, c, h3, h4⟩ := h2 i l hi
  exact ⟨A, c, h3, h4.mono hm⟩
theorem OwnS.blk (h : OwnS w B D v L) {k : Nat} (hk : v.ownBlock = some k) : B ≤ k ∧ k < w.heap.size ∧ ∃ cs, Blk w k 25 cs := by
  obtain ⟨vs, h1, h2⟩ := h
  exact own_blk h1 hk
theorem OwnS.set (h : OwnS w B D v L) {b n cap i : Nat} (hv : v = .slice (some ⟨b, 0, none⟩) n cap) (hi : i < L.length) {A : Option Addr} {c : Nat} {l : List Int} (hD : ∀ k, D k → k ≠ b) (hr : RN w D A c l) : OwnS (w.setCell ⟨b, i, none⟩ (.slice A l.length c)) B D v (L.set i l) := by
  subst hv
  obtain ⟨vs, h1, h2⟩ := h
  have hn : n = L.length := by
    rcases h1.2 with ⟨h0, _⟩ | ⟨g', cap, cur, h0, _⟩
    · cases h0
    · injection h0
  subst hn
  have hl := h1.1
  have hf := fr_set w b i (.slice A l.length c)
  refine ⟨vs.set i (.slice A l.length c), by rw [List.length_set]; exact own_set h1 i _, fun k l' hk => ?_⟩
  by_cases hik : i = k
  · subst hik
    rw [List.getElem?_set_self hi] at hk
    injection hk with hk
    subst hk
    exact ⟨A, c, by rw [List.getElem?_set_self (by omega)], hr.fr hf (fun k hk _ => hD k hk)⟩
  · rw [List.getElem?_set_ne hik] at hk
    obtain ⟨A', c', h3, h4⟩ := h2 k l' hk
    exact ⟨A', c', by rw [List.getElem?_set_ne hik]; exact h3, h4.fr hf (fun k hk _ => hD k hk)⟩
/-- The i-th row. -/
theorem OwnS.at_ (h : OwnS w B D v L) {i : Nat} (hi : i < L.length) : ∃ b cap A c, v = .slice (some ⟨b, 0, none⟩) L.length cap ∧ L.length ≤ cap ∧ b < w.heap.size ∧ v.ownBlock = some b ∧ w.cell? ⟨b, i, none⟩ = some (.slice A (gl L i).length c) ∧ (∀ j, w.frozen? ⟨b, j, none⟩ = false) ∧ RN w D A c (gl L i) := by
  obtain ⟨vs, h1, h2⟩ := h
  obtain ⟨b, cap, cs, rfl, hc, hb, hbl, ho, hblk, hcl, ht⟩ := own_form h1 (by omega)
  obtain ⟨A, c, h3, h4⟩ := h2 i _ (gl_some hi)
  refine ⟨b, cap, A, c, rfl, hc, hbl, ho, ?_, fun j => hblk.frozen j, h4⟩
  rw [hblk.cell]
  rw [← ht, List.getElem?_take_of_lt hi] at h3
  simpa using h3
theorem OwnS.slice (h : OwnS w B D v L) : ∃ A c, v = .slice A L.length c := by
  obtain ⟨vs, h1, h2⟩ := h
  rcases h1.2 with ⟨rfl, h0⟩ | ⟨g', cap, cur, rfl, _⟩
  · exact ⟨none, 0, by rw [h0]⟩
  · exact ⟨_, cap, rfl⟩
theorem OwnI.at_ {l : List Int} (h : OwnI w B v l) {i : Nat} (hi : i < l.length) : ∃ b cap, v = .slice (some ⟨b, 0, none⟩) l.length cap ∧ l.length ≤ cap ∧ b < w.heap.size ∧ v.ownBlock = some b ∧ w.cell? ⟨b, i, none⟩ = some (.int .i64 (gn l i)) ∧ ∀ j, w.frozen? ⟨b, j, none⟩ = false := by
  obtain ⟨b, cap, cs, rfl, hc, hb, hbl, ho, hblk, hcl, ht⟩ := own_form h (by omega)
  refine ⟨b, cap, rfl, hc, hbl, ho, ?_, fun j => hblk.frozen j⟩
  have h3 : (l.map EnI)[i]? = some (.int .i64 (gn l i)) := by rw [List.getElem?_map, gn_some hi]; rfl
  rw [hblk.cell]
  rw [← ht, List.getElem?_take_of_lt hi] at h3
  simpa using h3
theorem OwnI.set {l : List Int} (h : OwnI w B v l) {b n cap : Nat} (hv : v = .slice (some ⟨b, 0, none⟩) n cap) (i : Nat) (x : Int) : OwnI (w.setCell ⟨b, i, none⟩ (.int .i64 x)) B v (l.set i x) := by
  subst hv
  have hn : n = l.length := by
    rcases h.2 with ⟨h0, _⟩ | ⟨g', cap, cur, h0, _⟩
    · cases h0
    · injection h0
  subst hn
  unfold OwnI
  rw [List.length_set, List.map_set]
  exact own_set h i _
end

/-- Where a state's channels lie, and what else it has. -/
structure ChH where
  g : Nat
  vb : Value
  vs : Value
  vr : Value
  c0 : Value
  c1 : Value
  c2 : Value
  c3 : Value
  c5 : Value
  c6 : Value
  c7 : Value
  X : Nat → Prop
abbrev ChH.cells (h : ChH) : Array Value := #[h.c0, h.c1, h.c2, h.c3, h.vb, h.c5, h.c6, h.c7, h.vs, h.vr]
/-- What its calls write. -/
def ChH.W (h : ChH) (k : Nat) : Prop := h.vb.ownBlock = some k ∨ h.vs.ownBlock = some k ∨ h.vr.ownBlock = some k
/-- Where its rows are: in no block that is written, and in none of X. -/
def ChH.D (h : ChH) (k : Nat) : Prop := ¬ h.W k ∧ ¬ h.X k
theorem tI_ne_tS : (3 : TypeId) ≠ 25 := by decide
theorem tC_ne_tS : (28 : TypeId) ≠ 25 := by decide
theorem tC_ne_tI : (28 : TypeId) ≠ 3 := by decide
structure ChM (w : World) (B : Nat) (h : ChH) (s : Ck) : Prop where
  box : Blk w h.g 28 h.cells
  bf : OwnS w B h.D h.vb s.bf
  sq : OwnS w B h.D h.vs s.sq
  rq : OwnS w B h.D h.vr s.rq
  n1 : ∀ k, h.vb.ownBlock = some k → h.vs.ownBlock ≠ some k
  n2 : ∀ k, h.vb.ownBlock = some k → h.vr.ownBlock ≠ some k
  n3 : ∀ k, h.vs.ownBlock = some k → h.vr.ownBlock ≠ some k
  xlt : ∀ k, h.X k → k < w.heap.size
section
variable {w w' : World} {S : Nat → Prop} {B : Nat} {h : ChH} {s : Ck}
theorem ChM.wlt (H : ChM w B h s) {k : Nat} (hk : h.W k) : B ≤ k ∧ k < w.heap.size ∧ k ≠ h.g := by
  rcases hk with e | e | e
  · obtain ⟨h1, h2, cs, h3⟩ := H.bf.blk e
    exact ⟨h1, h2, h3.ne_ H.box (Ne.symm tC_ne_tS)⟩
  · obtain ⟨h1, h2, cs, h3⟩ := H.sq.blk e
    exact ⟨h1, h2, h3.ne_ H.box (Ne.symm tC_ne_tS)⟩
  · obtain ⟨h1, h2, cs, h3⟩ := H.rq.blk e
    exact ⟨h1, h2, h3.ne_ H.box (Ne.symm tC_ne_tS)⟩
theorem ChM.fr (H : ChM w B h s) (hf : Fr S w w') (hS : ∀ i, i < w.heap.size → ¬ S i) : ChM w' B h s :=
  ⟨hf.blk H.box (hS _ H.box.lt), H.bf.fr hf (fun i hi => hS i (H.wlt (.inl hi)).2.1) (fun i _ hi => hS i hi), H.sq.fr hf (fun i hi => hS i (H.wlt (.inr (.inl hi))).2.1) (fun i _ hi => hS i hi), H.rq.fr hf (fun i hi => hS i (H.wlt (.inr (.inr hi))).2.1) (fun i _ hi => hS i hi), H.n1, H.n2, H.n3, fun k hk => Nat.lt_of_lt_of_le (H.xlt k hk) hf.size⟩
theorem ChM.below {B' : Nat} (H : ChM w B h s) (hb : Below B' w w') (hB : w.heap.size ≤ B') : ChM w' B h s := H.fr (Fr.of_below hb) (fun i hi h => by omega)
theorem ChM.drewN (H : ChM w B h s) (k : Nat) : ChM (w.drewN k) B h s := H.fr ((Fr.refl (fun _ => False) w).drewN k) (fun _ _ h => h)
theorem ChM.alloc (H : ChM w B h s) (o : Obj) : ChM (w.alloc o) B h s := H.fr ((Fr.refl (fun _ => False) w).alloc o) (fun _ _ h => h)
/-- Rows keep out of more blocks, that are new. -/
theorem ChM.addX (H : ChM w B h s) (hb : Below w.heap.size w w') {X' : Nat → Prop} (hX : ∀ k, X' k → w.heap.size ≤ k ∧ k < w'.heap.size) : ChM w' B { h with X := fun k => h.X k ∨ X' k } s := by
  have H2 := H.below hb (Nat.le_refl _)
  have hm : ∀ {v : Value} {L : List (List Int)}, OwnS w B h.D v L → (∀ i, v.ownBlock = some i → i < w.heap.size) → OwnS w' B (ChH.D { h with X := fun k => h.X k ∨ X' k }) v L := fun {v L} hs hv => by
    have hs2 := hs.mono (E := fun k => h.D k ∧ k < w.heap.size) (fun i hi hl => ⟨hi, hl⟩)
    exact (hs2.fr (Fr.of_below hb) (fun i hi e => by have := hv i hi; omega) (fun i hi _ e => by have := hi.2; omega)).mono (fun i hi _ => ⟨hi.1.1, fun e => e.elim hi.1.2 (fun e => by have := (hX i e).1; have := hi.2; omega)⟩)
  exact ⟨H2.box, hm H.bf (fun i hi => (H.wlt (.inl hi)).2.1), hm H.sq (fun i hi => (H.wlt (.inr (.inl hi))).2.1), hm H.rq (fun i hi => (H.wlt (.inr (.inr hi))).2.1), H.n1, H.n2, H.n3, fun k hk => hk.elim (fun e => Nat.lt_of_lt_of_le (H.xlt k e) hb.size) (fun e => (hX k e).2)⟩
/-- What X holds may be written. -/
theorem ChM.frX (H : ChM w B h s) (hf : Fr S w w') (hB : ∀ k, S k → h.X k ∧ ¬ h.W k ∧ k ≠ h.g) : ChM w' B h s :=
  ⟨hf.blk H.box (fun e => (hB _ e).2.2 rfl), H.bf.fr hf (fun i hi e => (hB _ e).2.1 (.inl hi)) (fun i hi _ e => hi.2 (hB _ e).1), H.sq.fr hf (fun i hi e => (hB _ e).2.1 (.inr (.inl hi))) (fun i hi _ e => hi.2 (hB _ e).1), H.rq.fr hf (fun i hi e => (hB _ e).2.1 (.inr (.inr hi))) (fun i hi _ e => hi.2 (hB _ e).1), H.n1, H.n2, H.n3, fun k hk => Nat.lt_of_lt_of_le (H.xlt k hk) hf.size⟩
/-- X is forgotten. -/
theorem ChM.dropX (H : ChM w B h s) {X' : Nat → Prop} (hX : ∀ k, X' k → h.X k) : ChM w B { h with X := X' } s := by
  have hm : ∀ {v : Value} {L : List (List Int)}, OwnS w B h.D v L → OwnS w B (ChH.D { h with X := X' }) v L := fun {v L} hs => hs.mono (fun i hi _ => ⟨hi.1, fun e => hi.2 (hX _ e)⟩)
  exact ⟨H.box, hm H.bf, hm H.sq, hm H.rq, H.n1, H.n2, H.n3, fun k hk => H.xlt k (hX k hk)⟩
theorem ChM.cells (H : ChM w B h s) : w.cell? ⟨h.g, 4, none⟩ = some h.vb ∧ w.cell? ⟨h.g, 8, none⟩ = some h.vs ∧ w.cell? ⟨h.g, 9, none⟩ = some h.vr :=
  ⟨(H.box.cell 4).trans rfl, (H.box.cell 8).trans rfl, (H.box.cell 9).trans rfl⟩
theorem ChM.setB (H : ChM w B h s) {b n cap : Nat} (hv : h.vb = .slice (some ⟨b, 0, none⟩) n cap) {i : Nat} (hi : i < s.bf.length) {A : Option Addr} {c : Nat} {l : List Int} (hr : RN w h.D A c l) : ChM (w.setCell ⟨b, i, none⟩ (.slice A l.length c)) B h { s with bf := s.bf.set i l } := by
  have ho : h.vb.ownBlock = some b := by rw [hv]; rfl
  have hf := fr_set w b i (.slice A l.length c)
  have hW : h.W b := .inl ho
  have hbg := (H.wlt hW).2.2
  exact ⟨hf.blk H.box (Ne.symm hbg), H.bf.set hv hi (fun k hk e => hk.1 (e ▸ hW)) hr, H.sq.fr hf (fun k hk e => H.n1 b ho (by rw [hk, e])) (fun k hk _ e => hk.1 (e ▸ hW)), H.rq.fr hf (fun k hk e => H.n2 b ho (by rw [hk, e])) (fun k hk _ e => hk.1 (e ▸ hW)), H.n1, H.n2, H.n3, fun k hk => by simpa [World.setCell] using H.xlt k hk⟩
theorem ChM.setS (H : ChM w B h s) {b n cap : Nat} (hv : h.vs = .slice (some ⟨b, 0, none⟩) n cap) {i : Nat} (hi : i < s.sq.length) {A : Option Addr} {c : Nat} {l : List Int} (hr : RN w h.D A c l) : ChM (w.setCell ⟨b, i, none⟩ (.slice A l.length c)) B h { s with sq := s.sq.set i l } := by
  have ho : h.vs.ownBlock = some b := by rw [hv]; rfl
  have hf := fr_set w b i (.slice A l.length c)
  have hW : h.W b := .inr (.inl ho)
  have hbg := (H.wlt hW).2.2
  exact ⟨hf.blk H.box (Ne.symm hbg), H.bf.fr hf (fun k hk e => H.n1 k hk (by rw [ho, e])) (fun k hk _ e => hk.1 (e ▸ hW)), H.sq.set hv hi (fun k hk e => hk.1 (e ▸ hW)) hr, H.rq.fr hf (fun k hk e => H.n3 b ho (by rw [hk, e])) (fun k hk _ e => hk.1 (e ▸ hW)), H.n1, H.n2, H.n3, fun k hk => by simpa [World.setCell] using H.xlt k hk⟩
theorem ChM.setR (H : ChM w B h s) {b n cap : Nat} (hv : h.vr = .slice (some ⟨b, 0, none⟩) n cap) {i : Nat} (hi : i < s.rq.length) {A : Option Addr} {c : Nat} {l : List Int} (hr : RN w h.D A c l) : ChM (w.setCell ⟨b, i, none⟩ (.slice A l.length c)) B h { s with rq := s.rq.set i l } := by
  have ho : h.vr.ownBlock = some b := by rw [hv]; rfl
  have hf := fr_set w b i (.slice A l.length c)
  have hW : h.W b := .inr (.inr ho)
  have hbg := (H.wlt hW).2.2
  exact ⟨hf.blk H.box (Ne.symm hbg), H.bf.fr hf (fun k hk e => H.n2 k hk (by rw [ho, e])) (fun k hk _ e => hk.1 (e ▸ hW)), H.sq.fr hf (fun k hk e => H.n3 k hk (by rw [ho, e])) (fun k hk _ e => hk.1 (e ▸ hW)), H.rq.set hv hi (fun k hk e => hk.1 (e ▸ hW)) hr, H.n1, H.n2, H.n3, fun k hk => by simpa [World.setCell] using H.xlt k hk⟩
/-- New memory is none that rows keep out of. -/
theorem ChM.fresh (H : ChM w B h s) {k : Nat} (hk : w.heap.size ≤ k) : h.D k := ⟨fun e => by have := (H.wlt e).2.1; omega, fun e => by have := H.xlt _ e; omega⟩
end
/-- What a call leaves. -/
def ChT (w w' : World) (B : Nat) (h : ChH) (s : Ck) : Prop := ChM w' B h s ∧ Fr h.W w w'
theorem ChT.refl {w : World} {B : Nat} {h : ChH} {s : Ck} (H : ChM w B h s) : ChT w w B h s := ⟨H, Fr.refl _ _⟩
theorem ChT.trans {a b c : World} {B : Nat} {h : ChH} {s s' : Ck} (H : ChT a b B h s) (K : ChT b c B h s') : ChT a c B h s' := ⟨K.1, H.2.trans K.2 (fun _ _ h => h)⟩
theorem ChT.drewN {a b : World} {B : Nat} {h : ChH} {s : Ck} (H : ChT a b B h s) (n : Nat) : ChT a (b.drewN n) B h s := ⟨H.1.drewN n, H.2.drewN n⟩
theorem ChT.later {a b c : World} {B : Nat} {h : ChH} {s : Ck} (H : ChT a b B h s) (K : Below b.heap.size b c) : ChT a c B h s :=
  ⟨H.1.below K (Nat.le_refl _), H.2.trans (Fr.of_below K) (fun i hi e => by have := H.2.size; omega)⟩
end Go.Proofs.Ytbgigkamlnchcaa
