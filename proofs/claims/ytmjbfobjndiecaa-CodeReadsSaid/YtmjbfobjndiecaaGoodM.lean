
/-
  Rows of one kind that the call itself made, each behind the other; and where the making of a program that may be stands. No function of the landed code is spoken of here.
-/
import Derived.Test.YtmjbfobjndiecaaPrM
namespace Go.Proofs.Ytmjbfobjndiecaa
open Go.RowKit Plain

/-- The one's block lies ahead of the other's. -/
def Ahead (u v : Value) : Prop := ∀ i j, u.ownBlock = some i → v.ownBlock = some j → i < j
/-- Rows of one kind, each behind the other. -/
def Rows1 (w : World) (base : Nat) (e : TypeId) (size : Nat) (rs : List (Value × Nat × List Value)) : Prop :=
  (∀ r ∈ rs, w.ownsRow base e size r.1 r.2.1 r.2.2) ∧ (rs.map (·.1)).Pairwise Ahead

section
variable {w w' : World} {base size : Nat} {e : TypeId} {rs : List (Value × Nat × List Value)}
theorem Rows1.fr {S : Nat → Prop} (h : Rows1 w base e size rs) (hf : Fr S w w') (hS : ∀ r ∈ rs, ∀ i, r.1.ownBlock = some i → ¬ S i) : Rows1 w' base e size rs :=
  ⟨fun r hr => hf.own (h.1 r hr) (hS r hr), h.2⟩
theorem Rows1.below (h : Rows1 w base e size rs) (hb : Below w.heap.size w w') : Rows1 w' base e size rs :=
  h.fr (Fr.of_below hb) fun r hr i hi => by have := ((h.1 r hr).lt i hi).2; omega
theorem Rows1.push (h : Rows1 w base e size rs) {H0 n : Nat} {v : Value} {xs : List Value} (ho : w.ownsRow H0 e size v n xs) (hH : base ≤ H0) (hlt : ∀ r ∈ rs, ∀ i, r.1.ownBlock = some i → i < H0) :
    Rows1 w base e size (rs ++ [(v, n, xs)]) := by
  refine ⟨fun r hr => ?_, ?_⟩
  · rcases List.mem_append.1 hr with hr | hr
    · exact h.1 r hr
    · simp at hr
      subst hr
      refine ⟨ho.1, ?_⟩
      rcases ho.2 with h0 | ⟨g, cap, cur, rfl, hb, hr⟩
      · exact .inl h0
      · exact .inr ⟨g, cap, cur, rfl, by omega, hr⟩
  · rw [List.map_append, List.pairwise_append]
    refine ⟨h.2, by simp, fun a ha b hb i j hi hj => ?_⟩
    simp at hb
    subst hb
    obtain ⟨r, hr, rfl⟩ := List.mem_map.1 ha
    have h1 := hlt r hr i hi
    have h2 := (ho.lt j hj).1
    omega
theorem Rows1.lt (h : Rows1 w base e size rs) : ∀ r ∈ rs, ∀ i, r.1.ownBlock = some i → i < w.heap.size := fun r hr i hi => ((h.1 r hr).lt i hi).2
end

theorem own_ne {w : World} {base base' size size' n n' : Nat} {e e' : TypeId} {v v' : Value} {xs xs' : List Value} (h : w.ownsRow base e size v n xs) (h' : w.ownsRow base' e' size' v' n' xs') (hne : e ≠ e') :
    ∀ i, v.ownBlock = some i → v'.ownBlock ≠ some i := by
  intro i hi
  rcases h.2 with ⟨rfl, _⟩ | ⟨g, cap, cur, rfl, _, hh, _⟩
  · simp [Value.ownBlock] at hi
  · have : g = i := by simpa [Value.ownBlock] using hi
    subst this
    exact own_blk_ne h' hh (fun e => hne e.symm)
theorem own_mono {w : World} {base H size n : Nat} {e : TypeId} {v : Value} {xs : List Value} (ho : w.ownsRow H e size v n xs) (hH : base ≤ H) : w.ownsRow base e size v n xs := by
  refine ⟨ho.1, ?_⟩
  rcases ho.2 with h0 | ⟨g, cap, cur, rfl, hb, hr⟩
  · exact .inl h0
  · exact .inr ⟨g, cap, cur, rfl, by omega, hr⟩
theorem own_slice {w : World} {base size n : Nat} {e : TypeId} {v : Value} {xs : List Value} (h : w.ownsRow base e size v n xs) : ∃ A c, v = .slice A n c ∧ n ≤ c ∧ Reads w w.heap.size size A n xs := by
  rcases h.2 with ⟨rfl, rfl⟩ | ⟨k, cap, _, rfl, _, _, hc, _⟩
  · exact ⟨none, 0, rfl, by omega, Reads.of_own h⟩
  · exact ⟨_, cap, rfl, hc, Reads.of_own h⟩

def TF.val (t : TF) : Value := .slice t.A t.f.code.length t.c
def TL.val (t : TL) : Value := .slice t.A t.l.length t.c
def TF.row (t : TF) : Value × Nat × List Value := (t.val, t.f.code.length, CS t.f.code)
def TL.row (t : TL) : Value × Nat × List Value := (t.val, t.l.length, IS t.l)
def irow (v : Value) (l : List Int) : Value × Nat × List Value := (v, l.length, IS l)

/-- A program in memory of one's own: its rows. -/
structure OP (w : World) (base : Nat) (vf vc vs vh vx : Value) (cs ss hs : List Int) (fs : List TF) (ls : List TL) : Prop where
  ints : Rows1 w base 3 1 (irow vc cs :: irow vs ss :: irow vh hs :: ls.map TL.row)
  lrow : w.ownsRow base 23 1 vx ls.length (LS ls)
  frow : w.ownsRow base 45 2 vf fs.length (FS fs)
  code : Rows1 w base 47 2 (fs.map TF.row)

section
variable {w w' : World} {base : Nat} {vf vc vs vh vx : Value} {cs ss hs : List Int} {fs : List TF} {ls : List TL}
theorem OP.below (g : OP w base vf vc vs vh vx cs ss hs fs ls) (hb : Below w.heap.size w w') : OP w' base vf vc vs vh vx cs ss hs fs ls :=
  ⟨g.ints.below hb, (Fr.of_below hb).own g.lrow (fun i hi => by have := (g.lrow.lt i hi).2; omega), (Fr.of_below hb).own g.frow (fun i hi => by have := (g.frow.lt i hi).2; omega), g.code.below hb⟩
/-- Blocks that are none of the rows' may turn. -/
theorem OP.fr {S : Nat → Prop} (g : OP w base vf vc vs vh vx cs ss hs fs ls) (hf : Fr S w w') (hS : ∀ i, base ≤ i → ¬ S i) : OP w' base vf vc vs vh vx cs ss hs fs ls :=
  ⟨g.ints.fr hf (fun r hr i hi => hS i ((g.ints.1 r hr).lt i hi).1), hf.own g.lrow (fun i hi => hS i (g.lrow.lt i hi).1), hf.own g.frow (fun i hi => hS i (g.frow.lt i hi).1), g.code.fr hf (fun r hr i hi => hS i ((g.code.1 r hr).lt i hi).1)⟩
theorem OP.set_below (g : OP w base vf vc vs vh vx cs ss hs fs ls) {a : Addr} (ha : a.block < base) (u : Value) : OP (w.setCell a u) base vf vc vs vh vx cs ss hs fs ls :=
  g.fr (S := fun i => i = a.block) ((Fr.refl (fun i => i = a.block) w).setCell (p := a) (.inl rfl) u) (fun i hi h => by omega)

/-- A row of numbers more, and its place in the row of rows. -/
theorem OP.pushL (g : OP w base vf vc vs vh vx cs ss hs fs ls) {w2 w3 : World} (hb : Below w.heap.size w w2) (hbase : base ≤ w.heap.size) (t : TL) (ht : w2.ownsRow w.heap.size 3 1 t.val t.l.length (IS t.l))
    {o : Obj} {vx' : Value} (hg : (w2.alloc o).grownBy w3 vx.ownBlock) (hx : w3.ownsRow base 23 1 vx' (ls.length + 1) (LS ls ++ [t.val])) : OP w3 base vf vc vs vh vx' cs ss hs fs (ls ++ [t]) := by
  have hz := hb.size
  have g2 := g.below hb
  have hba : Below w2.heap.size w2 (w2.alloc o) := (Below.refl _ _).alloc (Nat.le_refl _) _
  have hi2 : Rows1 w2 base 3 1 ((irow vc cs :: irow vs ss :: irow vh hs :: ls.map TL.row) ++ [t.row]) :=
    Rows1.push g2.ints ht hbase g.ints.lt
  have hf := Fr.of_grown hg
  refine ⟨?_, ?_, ?_, ?_⟩
  · have := (hi2.below hba).fr hf (fun r hr i hi h => own_ne ((hi2.below hba).1 r hr) (g2.below hba).lrow (by decide) i hi h)
    simpa using this
  · rw [← LS_append]; simpa [LS, TL.val] using hx
  · exact hf.own (g2.below hba).frow (fun i hi h => own_ne (g2.below hba).frow (g2.below hba).lrow (by decide) i hi h)
  · exact (g2.below hba).code.fr hf (fun r hr i hi h => own_ne ((g2.below hba).code.1 r hr) (g2.below hba).lrow (by decide) i hi h)
/-- A function more. -/
theorem OP.pushF (g : OP w base vf vc vs vh vx cs ss hs fs ls) {w2 w3 : World} (hb : Below w.heap.size w w2) (hbase : base ≤ w.heap.size) (t : TF) (ht : w2.ownsRow w.heap.size 47 2 t.val t.f.code.length (CS t.f.code))
    {o : Obj} {vf' : Value} (hg : (w2.alloc o).grownBy w3 vf.ownBlock) (hx : w3.ownsRow base 45 2 vf' (fs.length + 1) (FS fs ++ [.int .i64 t.f.locals, t.val])) : OP w3 base vf' vc vs vh vx cs ss hs (fs ++ [t]) ls := by
  have hz := hb.size
  have g2 := g.below hb
  have hba : Below w2.heap.size w2 (w2.alloc o) := (Below.refl _ _).alloc (Nat.le_refl _) _
  have hi2 : Rows1 w2 base 47 2 (fs.map TF.row ++ [t.row]) := Rows1.push g2.code ht hbase g.code.lt
  have hf := Fr.of_grown hg
  refine ⟨?_, ?_, ?_, ?_⟩
  · exact (g2.below hba).ints.fr hf (fun r hr i hi h => own_ne ((g2.below hba).ints.1 r hr) (g2.below hba).frow (by decide) i hi h)
  · exact hf.own (g2.below hba).lrow (fun i hi h => own_ne (g2.below hba).lrow (g2.below hba).frow (by decide) i hi h)
  · rw [← FS_append]; simpa [FS, TF.val, TF.cells, flat2] using hx
  · have := (hi2.below hba).fr hf (fun r hr i hi h => own_ne ((hi2.below hba).1 r hr) (g2.below hba).frow (by decide) i hi h)
    simpa using this
theorem Rows1.ne {e : TypeId} {size : Nat} {rs : List (Value × Nat × List Value)} (h : Rows1 w base e size rs) {i j : Nat} {a b : Value × Nat × List Value} (ha : rs[i]? = some a) (hb : rs[j]? = some b) (hij : i ≠ j) :
    ∀ k, a.1.ownBlock = some k → b.1.ownBlock ≠ some k := by
  intro k hk hk'
  have hp := List.pairwise_iff_getElem.1 h.2
  obtain ⟨hi, rfl⟩ := List.getElem?_eq_some_iff.1 ha
  obtain ⟨hj, rfl⟩ := List.getElem?_eq_some_iff.1 hb
  rcases Nat.lt_or_gt_of_ne hij with hlt | hlt
  · have := hp i j (by simpa using hi) (by simpa using hj) hlt k k (by simpa using hk) (by simpa using hk'); omega
  · have := hp j i (by simpa using hj) (by simpa using hi) hlt k k (by simpa using hk') (by simpa using hk); omega
theorem set_same {α : Type} {l : List α} {i : Nat} {x : α} (h : l[i]? = some x) : l.set i x = l := by
  apply List.ext_getElem?
  intro j
  by_cases hij : i = j
  · subst hij
    rw [List.getElem?_set_self (List.getElem?_eq_some_iff.1 h).1, h]
  · rw [List.getElem?_set_ne hij]
/-- One row of several gets other cells. -/
theorem Rows1.put {e : TypeId} {size : Nat} {rs : List (Value × Nat × List Value)} (h : Rows1 w base e size rs) {i : Nat} {r : Value × Nat × List Value} (hi : rs[i]? = some r) {xs : List Value}
    (hf : Fr (fun k => r.1.ownBlock = some k) w w') (ho : w'.ownsRow base e size r.1 r.2.1 xs) : Rows1 w' base e size (rs.set i (r.1, r.2.1, xs)) := by
  obtain ⟨hil, hir⟩ := List.getElem?_eq_some_iff.1 hi
  refine ⟨fun s hs => ?_, ?_⟩
  · obtain ⟨j, hj⟩ := List.getElem?_of_mem hs
    by_cases hij : i = j
    · subst hij
      rw [List.getElem?_set_self hil] at hj
      injection hj with hj
      subst hj
      exact ho
    · rw [List.getElem?_set_ne hij] at hj
      exact hf.own (h.1 s (List.mem_of_getElem? hj)) (fun k hk hk' => h.ne hj hi (Ne.symm hij) k hk hk')
  · rw [List.map_set, set_same (by simp [hi])]
    exact h.2
/-- An instruction is stored. -/
theorem OP.setI (g : OP w base vf vc vs vh vx cs ss hs fs ls) {i k b : Nat} {t : TF} (hi : fs[i]? = some t) (hA : t.A = some ⟨b, 0, none⟩) (hk : k < t.f.code.length) (x : IV) :
    OP ((w.setCell ⟨b, k * 2, none⟩ (.int .i64 x.op)).setCell ⟨b, k * 2 + 1, none⟩ (.int .i64 x.a)) base vf vc vs vh vx cs ss hs (fs.set i { t with f := { t.f with code := t.f.code.set k x } }) ls := by
  have hrow : (fs.map TF.row)[i]? = some t.row := by simp [hi]
  have ho := g.code.1 _ (List.mem_of_getElem? hrow)
  have hv : t.val = .slice (some ⟨b, 0, none⟩) t.f.code.length t.c := by rw [TF.val, hA]
  have hown : t.row.1.ownBlock = some b := by simp [TF.row, hv, Value.ownBlock]
  have hf : Fr (fun j => t.row.1.ownBlock = some j) w ((w.setCell ⟨b, k * 2, none⟩ (.int .i64 x.op)).setCell ⟨b, k * 2 + 1, none⟩ (.int .i64 x.a)) :=
    ((Fr.refl _ w).setCell (p := ⟨b, k * 2, none⟩) (.inl hown) _).setCell (p := ⟨b, k * 2 + 1, none⟩) (.inl hown) _
  have ho2 : ((w.setCell ⟨b, k * 2, none⟩ (.int .i64 x.op)).setCell ⟨b, k * 2 + 1, none⟩ (.int .i64 x.a)).ownsRow base 47 2 t.row.1 t.row.2.1 (CS (t.f.code.set k x)) := by
    rw [← CS_set _ _ _ hk]
    simp only [TF.row, hv] at ho ⊢
    exact ((ho.stored _ _).1.stored _ _).1
  have hFS : FS (fs.set i { t with f := { t.f with code := t.f.code.set k x } }) = FS fs := by
    unfold FS
    rw [List.map_set, set_same]
    simp [hi, TF.cells]
  refine ⟨g.ints.fr hf (fun r hr j hj h => own_ne (g.ints.1 r hr) ho (by decide) j hj h), hf.own g.lrow (fun j hj h => own_ne g.lrow ho (by decide) j hj h), ?_, ?_⟩
  · rw [hFS, List.length_set]
    exact hf.own g.frow (fun j hj h => own_ne g.frow ho (by decide) j hj h)
  · have := g.code.put hrow hf ho2
    rw [List.map_set]
    simpa [TF.row, TF.val] using this
theorem own_ri {w : World} {base : Nat} {v : Value} {l : List Int} (h : w.ownsRow base 3 1 v l.length (IS l)) : ∃ A c, v = .slice A l.length c ∧ RI w w.heap.size A l.length c l := by
  obtain ⟨A, c, e, hc, hr⟩ := own_slice h
  exact ⟨A, c, e, rfl, hc, hr⟩
/-- What was made stands in memory. -/
theorem OP.rp (g : OP w base vf vc vs vh vx cs ss hs fs ls) (mu th : Int) : ∃ h : PH, vf = .slice h.fA fs.length h.fc ∧ vc = .slice h.cA cs.length h.cc ∧ vs = .slice h.sA ss.length h.sc ∧ vh = .slice h.hA hs.length h.hc ∧ vx = .slice h.xA ls.length h.xc ∧
    RP w w.heap.size h ⟨fs.map TF.f, mu, cs, ss, hs, ls.map TL.l, th⟩ := by
  obtain ⟨A1, c1, e1, h1⟩ := own_ri (g.ints.1 (irow vc cs) (by simp))
  obtain ⟨A2, c2, e2, h2⟩ := own_ri (g.ints.1 (irow vs ss) (by simp))
  obtain ⟨A3, c3, e3, h3⟩ := own_ri (g.ints.1 (irow vh hs) (by simp))
  obtain ⟨A4, c4, e4, l4, h4⟩ := own_slice g.lrow
  obtain ⟨A5, c5, e5, l5, h5⟩ := own_slice g.frow
  refine ⟨⟨A5, c5, A1, c1, A2, c2, A3, c3, A4, c4⟩, e5, e1, e2, e3, e4, ⟨fs, rfl, by simp, by simpa using l5, by simpa using h5, fun t ht => ?_⟩, h1, h2, h3, ⟨ls, rfl, by simp, by simpa using l4, by simpa using h4, fun t ht => ?_⟩⟩
  · obtain ⟨A, c, e, hc, hr⟩ := own_slice (g.code.1 t.row (List.mem_map_of_mem ht))
    have e' : t.val = .slice A t.f.code.length c := e
    unfold TF.val at e'
    injection e' with e1 e2 e3
    subst e1 e3
    exact ⟨rfl, hc, hr⟩
  · obtain ⟨A, c, e, hc, hr⟩ := own_slice (g.ints.1 t.row (by simp; exact .inr (.inr (.inr ⟨t, ht, rfl⟩))))
    have e' : t.val = .slice A t.l.length c := e
    unfold TL.val at e'
    injection e' with e1 e2 e3
    subst e1 e3
    exact ⟨rfl, hc, hr⟩
end
end Go.Proofs.Ytmjbfobjndiecaa
