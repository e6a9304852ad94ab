
/-
  What Good makes of any program.
-/
import Derived.Test.YtmjbfobjndiecaaPrB
import Derived.Test.YtmjbfobjndiecaaGoodM
import Derived.Deep.RegionHeld3
import Derived.Deep.DeepCutAuto
import Derived.Deep.CutBlock
import Derived.Deep.QuietTactic
import Derived.BigQuiet
import Derived.IntWalk
import Derived.Deep.RegionLaw
set_option linter.unusedVariables false
set_option linter.unusedSimpArgs false
namespace Go.Proofs.Ytmjbfobjndiecaa
open Go.RowKit Plain

theorem reads_new (w : World) (v : Value) (t : TypeId) : Reads (w.alloc (.cells #[v] t)) (w.heap.size + 1) 1 (some ⟨w.heap.size, 0, none⟩) 1 [v] :=
  ⟨rfl, fun _ => ⟨_, rfl, by simp, fun j u hj => by
    match j, hj with
    | 0, hj => simp at hj; subst hj; simp [Addr.add]⟩⟩
theorem info_ints : (Try.prog.info? 23).map (fun i => (i.zero, i.size, i.bytes)) = some (some (.slice none 0 0), 1, 24) := by kernel_rfl
theorem info_func : (Try.prog.info? 45).map (fun i => (i.zero, i.size, i.bytes)) = some (some (.agg #[.int .i64 0, .slice none 0 0]), 2, 32) := by kernel_rfl
theorem info_instr : (Try.prog.info? 47).map (fun i => (i.zero, i.size, i.bytes)) = some (some (.agg #[.int .i64 0, .int .i64 0]), 2, 16) := by kernel_rfl

def MadeP (w : World) (p : PV) (e : Ending) (w' : World) : Prop :=
  ∃ vf vc vs vh vx fs ls, e = .returned (.agg #[vf, .int .i64 (good p).mutexes, vc, vs, vh, vx, .int .i64 (good p).threads]) ∧
    OP w' w.heap.size vf vc vs vh vx (good p).conds (good p).semas (good p).chans fs ls ∧ fs.map TF.f = (good p).funcs ∧ ls.map TL.l = (good p).choices ∧ Below w.heap.size w w'

/-- Where the making stands: the three boxes, and the rows. -/
structure GS (w wr : World) (h : PH) (p : PV) (mu th : Int) (vf vc vs vh vx : Value) (cs ss hs : List Int) (fs : List TF) (ls : List TL) : Prop where
  pb : Blk wr w.heap.size 26 (PC h p)
  rb : Blk wr (w.heap.size + 1) 26 #[.slice none 0 0, .int .i64 0, .slice none 0 0, .slice none 0 0, .slice none 0 0, .slice none 0 0, .int .i64 0]
  ob : Blk wr (w.heap.size + 1 + 1) 26 #[vf, .int .i64 mu, vc, vs, vh, vx, .int .i64 th]
  op : OP wr (w.heap.size + 1 + 1 + 1) vf vc vs vh vx cs ss hs fs ls
  bel : Below w.heap.size w wr

/-- The same while the rows of numbers are made. -/
structure ST (w wr : World) (h : PH) (p : PV) (o : Array Value) (rs : List (Value × Nat × List Value)) : Prop where
  pb : Blk wr w.heap.size 26 (PC h p)
  rb : Blk wr (w.heap.size + 1) 26 #[.slice none 0 0, .int .i64 0, .slice none 0 0, .slice none 0 0, .slice none 0 0, .slice none 0 0, .int .i64 0]
  ob : Blk wr (w.heap.size + 1 + 1) 26 o
  ints : Rows1 wr (w.heap.size + 1 + 1 + 1) 3 1 rs
  bel : Below w.heap.size w wr
section
variable {w wr w2 : World} {h : PH} {p : PV} {o : Array Value} {rs : List (Value × Nat × List Value)}
theorem ST.size (g : ST w wr h p o rs) : w.heap.size + 1 + 1 + 1 ≤ wr.heap.size := by have := g.ob.lt; omega
theorem ST.things (g : ST w wr h p o rs) {v : Value} {l : List Int} (hv : w2.ownsRow wr.heap.size 3 1 v l.length (IS l)) (hb : Below wr.heap.size wr w2) : ST w w2 h p o (rs ++ [irow v l]) := by
  have hz := g.size
  exact ⟨g.pb.below hb (by omega), g.rb.below hb (by omega), g.ob.below hb (by omega), (g.ints.below hb).push hv hz g.ints.lt, g.bel.trans (hb.mono (by omega))⟩
theorem ST.set (g : ST w wr h p o rs) (i : Nat) (u : Value) : ST w (wr.setCell ⟨w.heap.size + 1 + 1, i, none⟩ u) h p (o.setIfInBounds i u) rs :=
  ⟨g.pb.far (by simp; omega) u, g.rb.far (by simp) u, g.ob.set_ i u, g.ints.fr (S := fun k => k = w.heap.size + 1 + 1) ((Fr.refl (fun k => k = w.heap.size + 1 + 1) wr).setCell (p := ⟨w.heap.size + 1 + 1, i, none⟩) (.inl rfl) u) (fun r hr k hk e => by have := ((g.ints.1 r hr).lt k hk).1; omega),
    g.bel.setCell (by simp; omega) u⟩
theorem ST.start (w : World) (h : PH) (p : PV) (o : Array Value) : ST w (((w.alloc (.cells (PC h p) 26)).alloc (.cells #[.slice none 0 0, .int .i64 0, .slice none 0 0, .slice none 0 0, .slice none 0 0, .slice none 0 0, .int .i64 0] 26)).alloc (.cells o 26)) h p o [] := by
  refine ⟨((Blk.new w _ _).alloc _).alloc _, ?_, ?_, ⟨by simp, by simp⟩, (((Below.refl _ _).alloc (Nat.le_refl _) _).alloc (by simp) _).alloc (by simp; omega) _⟩
  · refine Blk.alloc ?_ _
    simpa using Blk.new (w.alloc (.cells (PC h p) 26)) 26 _
  · simpa using Blk.new ((w.alloc (.cells (PC h p) 26)).alloc (.cells #[.slice none 0 0, .int .i64 0, .slice none 0 0, .slice none 0 0, .slice none 0 0, .slice none 0 0, .int .i64 0] 26)) 26 o
/-- The program's own cells, as the walk wants them. -/
theorem ST.pcells (g : ST w wr h p o rs) : wr.cell? ⟨w.heap.size, 0, none⟩ = some (.slice h.fA p.funcs.length h.fc) ∧ wr.cell? ⟨w.heap.size, 1, none⟩ = some (.int .i64 p.mutexes) ∧ wr.cell? ⟨w.heap.size, 2, none⟩ = some (.slice h.cA p.conds.length h.cc) ∧
    wr.cell? ⟨w.heap.size, 3, none⟩ = some (.slice h.sA p.semas.length h.sc) ∧ wr.cell? ⟨w.heap.size, 4, none⟩ = some (.slice h.hA p.chans.length h.hc) ∧ wr.cell? ⟨w.heap.size, 5, none⟩ = some (.slice h.xA p.choices.length h.xc) ∧ wr.cell? ⟨w.heap.size, 6, none⟩ = some (.int .i64 p.threads) := by
  have hc := g.pb.cell
  exact ⟨(hc 0).trans rfl, (hc 1).trans rfl, (hc 2).trans rfl, (hc 3).trans rfl, (hc 4).trans rfl, (hc 5).trans rfl, (hc 6).trans rfl⟩
end

section
variable {w wr w2 w3 : World} {h : PH} {p : PV} {mu th : Int} {vf vc vs vh vx : Value} {cs ss hs : List Int} {fs : List TF} {ls : List TL}
theorem GS.st (g : GS w wr h p mu th vf vc vs vh vx cs ss hs fs ls) : ST w wr h p #[vf, .int .i64 mu, vc, vs, vh, vx, .int .i64 th] (irow vc cs :: irow vs ss :: irow vh hs :: ls.map TL.row) :=
  ⟨g.pb, g.rb, g.ob, g.op.ints, g.bel⟩
theorem GS.size (g : GS w wr h p mu th vf vc vs vh vx cs ss hs fs ls) : w.heap.size + 1 + 1 + 1 ≤ wr.heap.size := g.st.size
theorem GS.below (g : GS w wr h p mu th vf vc vs vh vx cs ss hs fs ls) (hb : Below wr.heap.size wr w2) : GS w w2 h p mu th vf vc vs vh vx cs ss hs fs ls := by
  have hz := g.size
  exact ⟨g.pb.below hb (by omega), g.rb.below hb (by omega), g.ob.below hb (by omega), g.op.below hb, g.bel.trans (hb.mono (by omega))⟩
theorem GS.ocells (g : GS w wr h p mu th vf vc vs vh vx cs ss hs fs ls) : wr.cell? ⟨w.heap.size + 1 + 1, 0, none⟩ = some vf ∧ wr.cell? ⟨w.heap.size + 1 + 1, 1, none⟩ = some (.int .i64 mu) ∧ wr.cell? ⟨w.heap.size + 1 + 1, 2, none⟩ = some vc ∧
    wr.cell? ⟨w.heap.size + 1 + 1, 3, none⟩ = some vs ∧ wr.cell? ⟨w.heap.size + 1 + 1, 4, none⟩ = some vh ∧ wr.cell? ⟨w.heap.size + 1 + 1, 5, none⟩ = some vx ∧ wr.cell? ⟨w.heap.size + 1 + 1, 6, none⟩ = some (.int .i64 th) := by
  have hc := g.ob.cell
  exact ⟨(hc 0).trans rfl, (hc 1).trans rfl, (hc 2).trans rfl, (hc 3).trans rfl, (hc 4).trans rfl, (hc 5).trans rfl, (hc 6).trans rfl⟩
theorem ST.gs {o : Array Value} (g : ST w wr h p o [irow vc cs, irow vs ss, irow vh hs]) (ho : o = #[.slice none 0 0, .int .i64 mu, vc, vs, vh, .slice none 0 0, .int .i64 th]) :
    GS w wr h p mu th (.slice none 0 0) vc vs vh (.slice none 0 0) cs ss hs [] [] := by
  subst ho
  exact ⟨g.pb, g.rb, g.ob, ⟨g.ints, World.ownsRow_nil _ _ _ _, World.ownsRow_nil _ _ _ _, ⟨by simp, by simp⟩⟩, g.bel⟩
/-- The out box's cell i turns, and the rows with it. -/
theorem GS.pushL (g : GS w wr h p mu th vf vc vs vh vx cs ss hs fs ls) (hb : Below wr.heap.size wr w2) (t : TL) (ht : w2.ownsRow wr.heap.size 3 1 t.val t.l.length (IS t.l))
    {o : Obj} {vx' : Value} (hg : (w2.alloc o).grownBy w3 vx.ownBlock) (hx : w3.ownsRow (w.heap.size + 1 + 1 + 1) 23 1 vx' (ls.length + 1) (LS ls ++ [t.val])) :
    GS w (w3.setCell ⟨w.heap.size + 1 + 1, 5, none⟩ vx') h p mu th vf vc vs vh vx' cs ss hs fs (ls ++ [t]) := by
  have hz := g.size
  have g2 := g.below hb
  have g3 := g2.below ((Below.refl w2.heap.size w2).alloc (Nat.le_refl _) o)
  have hne : ∀ k, vx.ownBlock = some k → w.heap.size + 1 + 1 + 1 ≤ k := fun k hk => (g3.op.lrow.lt k hk).1
  refine ⟨(g3.pb.grown hg (fun e => by have := hne _ e.symm; omega)).far (by simp; omega) _, (g3.rb.grown hg (fun e => by have := hne _ e.symm; omega)).far (by simp) _, ?_, ?_, ?_⟩
  · simpa using (g3.ob.grown hg (fun e => by have := hne _ e.symm; omega)).set_ 5 vx'
  · exact (g.op.pushL hb hz t ht hg hx).set_below (by simp) _
  · exact ((g3.bel.grown hg (by have := g3.size; omega) (fun k hk => by have := hne k hk; omega))).setCell (by simp; omega) _
theorem GS.pushF (g : GS w wr h p mu th vf vc vs vh vx cs ss hs fs ls) (hb : Below wr.heap.size wr w2) (t : TF) (ht : w2.ownsRow wr.heap.size 47 2 t.val t.f.code.length (CS t.f.code))
    {o : Obj} {vf' : Value} (hg : (w2.alloc o).grownBy w3 vf.ownBlock) (hx : w3.ownsRow (w.heap.size + 1 + 1 + 1) 45 2 vf' (fs.length + 1) (FS fs ++ [.int .i64 t.f.locals, t.val])) :
    GS w (w3.setCell ⟨w.heap.size + 1 + 1, 0, none⟩ vf') h p mu th vf' vc vs vh vx cs ss hs (fs ++ [t]) ls := by
  have hz := g.size
  have g2 := g.below hb
  have g3 := g2.below ((Below.refl w2.heap.size w2).alloc (Nat.le_refl _) o)
  have hne : ∀ k, vf.ownBlock = some k → w.heap.size + 1 + 1 + 1 ≤ k := fun k hk => (g3.op.frow.lt k hk).1
  refine ⟨(g3.pb.grown hg (fun e => by have := hne _ e.symm; omega)).far (by simp; omega) _, (g3.rb.grown hg (fun e => by have := hne _ e.symm; omega)).far (by simp) _, ?_, ?_, ?_⟩
  · simpa using (g3.ob.grown hg (fun e => by have := hne _ e.symm; omega)).set_ 0 vf'
  · exact (g.op.pushF hb hz t ht hg hx).set_below (by simp) _
  · exact ((g3.bel.grown hg (by have := g3.size; omega) (fun k hk => by have := hne k hk; omega))).setCell (by simp; omega) _
end
theorem choices0_snoc (l : List (List Int)) (n : Int) (k : Nat) (c : List Int) (hc : l[k]? = some c) (h4 : k < 4) :
    choices0 (l.take (k + 1)) n = choices0 (l.take k) n ++ (if (dedup [] (things c (n - 1))).isEmpty then [] else [dedup [] (things c (n - 1))]) := by
  unfold choices0
  rw [List.take_take, List.take_take, Nat.min_eq_right (by omega), Nat.min_eq_right (by omega), List.take_add_one, hc]
  simp only [Option.toList_some, List.map_append, List.map_cons, List.map_nil, List.filter_append, List.filter_cons, List.filter_nil]
  split <;> split <;> simp_all
theorem choices0_take (l : List (List Int)) (n : Int) (k : Nat) (h : l.length ≤ k ∨ 4 ≤ k) : choices0 (l.take k) n = choices0 l n := by
  unfold choices0
  rcases h with h | h
  · rw [List.take_of_length_le h]
  · rw [List.take_take, Nat.min_eq_left h]
theorem dedup_snoc (own : List Int) (k : Nat) (x : Int) (hx : own[k]? = some x) : dedup [] (own.take (k + 1)) = if (dedup [] (own.take k)).contains x then dedup [] (own.take k) else dedup [] (own.take k) ++ [x] := by
  rw [List.take_add_one, hx]
  have : ∀ (l : List Int) (acc : List Int), dedup acc (l ++ [x]) = if (dedup acc l).contains x then dedup acc l else dedup acc l ++ [x] := by
    intro l
    induction l with
    | nil => intro acc; rfl
    | cons y r ih => intro acc; simp only [List.cons_append, dedup]; exact ih _
  exact this _ []

theorem contains_snoc (l : List Int) (j : Nat) (x y : Int) (h : l[j]? = some y) : (l.take (j + 1)).contains x = ((l.take j).contains x || y == x) := by
  rw [List.take_add_one, h]
  simp only [Option.toList_some, List.contains_eq_mem, List.mem_append, List.mem_singleton]
  by_cases h1 : x ∈ l.take j
  · simp [h1]
  · by_cases h2 : x = y
    · subst h2; simp
    · simp [h1, h2, Ne.symm h2]
/-- Is x among the first j? -/
def hasB (l : List Int) (j : Nat) (x : Int) : Bool := (l.take j).contains x
theorem hasB_snoc {l : List Int} {j : Nat} {x y : Int} (h : l[j]? = some y) : hasB l (j + 1) x = (hasB l j x || y == x) := contains_snoc l j x y h
theorem hasB_zero (l : List Int) (x : Int) : hasB l 0 x = false := rfl
theorem hasB_all {l : List Int} {j : Nat} (x : Int) (h : l.length ≤ j) : hasB l j x = l.contains x := by unfold hasB; rw [List.take_of_length_le h]
theorem dedup_four (own : List Int) (k : Nat) (h : own.length ≤ 4) : (dedup [] (own.take k)).length ≤ 4 := by
  have := dedup_len (own.take k) []
  simp at this
  omega
/-- Where the first loop stands, and what it leaves. -/
def RelL (w : World) (h : PH) (p : PV) (mu th : Int) (vc vs vh : Value) (cs ss hs : List Int) (s4 : Value) (wr : World) : Prop :=
  ∃ k : Nat, k ≤ 4 ∧ k ≤ p.choices.length ∧ s4 = .int .i64 (k : Int) ∧ ∃ vx ls, GS w wr h p mu th (.slice none 0 0) vc vs vh vx cs ss hs [] ls ∧ ls.map TL.l = choices0 (p.choices.take k) hs.length
def CutL (w : World) (h : PH) (p : PV) (mu th : Int) (vc vs vh : Value) (cs ss hs : List Int) (wr : World) : Prop :=
  ∃ vx ls, GS w wr h p mu th (.slice none 0 0) vc vs vh vx cs ss hs [] ls ∧ ls.map TL.l = choices0 p.choices hs.length
/-- Where the loop stands that leaves out what stands twice. -/
def RelD (wi : World) (own : List Int) (s6 s7 : Value) (wr : World) : Prop :=
  ∃ k : Nat, k ≤ own.length ∧ s7 = .int .i64 (k : Int) ∧ wr.ownsRow wi.heap.size 3 1 s6 (dedup [] (own.take k)).length (IS (dedup [] (own.take k))) ∧ Below wi.heap.size wi wr
def RelJ (l : List Int) (x : Int) (w : World) (s8 s9 : Value) (wr : World) : Prop :=
  ∃ j : Nat, j ≤ l.length ∧ s9 = .int .i64 (j : Int) ∧ (∃ b : Bool, s8 = .bool b ∧ Hid (hasB l j x = b)) ∧ ∃ n, wr = w.drewN n

/-- A function, cut. -/
def cutF (f : FV) : FV := ⟨around f.locals 4, f.code.take 24⟩
def RelF (w : World) (h : PH) (p : PV) (mu th : Int) (vc vs vh vx : Value) (cs ss hs : List Int) (ls : List TL) (s10 : Value) (wr : World) : Prop :=
  ∃ k : Nat, k ≤ 4 ∧ k ≤ p.funcs.length ∧ s10 = .int .i64 (k : Int) ∧ ∃ vf fs, GS w wr h p mu th vf vc vs vh vx cs ss hs fs ls ∧ fs.map TF.f = (p.funcs.take k).map cutF
def CutF (w : World) (h : PH) (p : PV) (mu th : Int) (vc vs vh vx : Value) (cs ss hs : List Int) (ls : List TL) (wr : World) : Prop :=
  ∃ vf fs, GS w wr h p mu th vf vc vs vh vx cs ss hs fs ls ∧ fs.map TF.f = (p.funcs.take 4).map cutF
/-- Where the loop stands that copies a function's instructions. -/
def RelC (wb : World) (f : FV) (lo : Int) (s12 : Value) (wr : World) : Prop :=
  ∃ j : Nat, j ≤ 24 ∧ j ≤ f.code.length ∧ s12 = .int .i64 (j : Int) ∧ ∃ kA kc, Blk wr wb.heap.size 45 #[.int .i64 lo, .slice kA j kc] ∧
    wr.ownsRow (wb.heap.size + 1) 47 2 (.slice kA j kc) j (CS (f.code.take j)) ∧ Below wb.heap.size wb wr
theorem CS_snoc {c : List IV} {j : Nat} {i : IV} (h : c[j]? = some i) : CS (c.take (j + 1)) = CS (c.take j) ++ [.int .i64 i.op, .int .i64 i.a] := by
  rw [List.take_add_one, h, ← CS_append]
  rfl
theorem reads_new2 (w : World) (u v : Value) (t : TypeId) : Reads (w.alloc (.cells #[u, v] t)) (w.heap.size + 1) 2 (some ⟨w.heap.size, 0, none⟩) 1 [u, v] :=
  ⟨rfl, fun _ => ⟨_, rfl, by simp, fun j x hj => by
    match j, hj with
    | 0, hj => simp at hj; subst hj; simp [Addr.add]
    | 1, hj => simp at hj; subst hj; simp [Addr.add]⟩⟩

theorem instrOf_at (h : PH) (p : PV) (f : FV) (i : IV) (kA : Option Addr) (kc : Nat) (w : World) (nf nc ns nh nx nk : Nat) (mu th lo : Int) (e1 : nf = p.funcs.length) (e2 : nc = p.conds.length) (e3 : ns = p.semas.length) (e4 : nh = p.chans.length) (e5 : nx = p.choices.length)
    (e6 : mu = p.mutexes) (e7 : th = p.threads) (e8 : lo = f.locals) (e9 : nk = f.code.length) (hh : headB p = true) (hl : 0 ≤ f.locals ∧ f.locals ≤ 8) (hc : f.code.length ≤ 64)
    (ho : -9223372036854775808 ≤ i.op ∧ i.op ≤ 9223372036854775807) (ha : -9223372036854775808 ≤ i.a ∧ i.a ≤ 9223372036854775807) :
    Calls Try.prog 22 #[.agg #[.slice h.fA nf h.fc, .int .i64 mu, .slice h.cA nc h.cc, .slice h.sA ns h.sc, .slice h.hA nh h.hc, .slice h.xA nx h.xc, .int .i64 th],
        .agg #[.int .i64 lo, .slice kA nk kc], .agg #[.int .i64 i.op, .int .i64 i.a]] w
      fun e w' => e = .returned (.agg #[.int .i64 (instrOf p f i).op, .int .i64 (instrOf p f i).a]) ∧ Below w.heap.size w w' := by
  subst e1 e2 e3 e4 e5 e6 e7 e8 e9
  exact instrOf_any h p f i kA kc w hh hl hc ho ha

theorem set2_other (w : World) (b i j : Nat) (u v : Value) {q : Addr} (hq : q.block ≠ b) : ((w.setCell ⟨b, i, none⟩ u).setCell ⟨b, j, none⟩ v).cell? q = w.cell? q := by
  rw [World.cell?_setCell_other _ _ _ _ (fun e => hq (by rw [← e])), World.cell?_setCell_other _ _ _ _ (fun e => hq (by rw [← e]))]

theorem GS.setI {w wr : World} {h : PH} {p : PV} {mu th : Int} {vf vc vs vh vx : Value} {cs ss hs : List Int} {fs : List TF} {ls : List TL} (g : GS w wr h p mu th vf vc vs vh vx cs ss hs fs ls) {i k b : Nat} {t : TF} (hi : fs[i]? = some t) (hA : t.A = some ⟨b, 0, none⟩) (hk : k < t.f.code.length) (x : IV) :
    GS w ((wr.setCell ⟨b, k * 2, none⟩ (.int .i64 x.op)).setCell ⟨b, k * 2 + 1, none⟩ (.int .i64 x.a)) h p mu th vf vc vs vh vx cs ss hs (fs.set i { t with f := { t.f with code := t.f.code.set k x } }) ls := by
  have hrow : (fs.map TF.row)[i]? = some t.row := by simp [hi]
  have hb := ((g.op.code.1 _ (List.mem_of_getElem? hrow)).lt b (by simp [TF.row, TF.val, hA, Value.ownBlock])).1
  exact ⟨(g.pb.far (by simp; omega) _).far (by simp; omega) _, (g.rb.far (by simp; omega) _).far (by simp; omega) _, (g.ob.far (by simp; omega) _).far (by simp; omega) _, g.op.setI hi hA hk x, (g.bel.setCell (by simp; omega) _).setCell (by simp; omega) _⟩

/-- A function with its instructions made such as may be. -/
def finF (q : PV) (f : FV) : FV := { f with code := f.code.map (instrOf q f) }
/-- With the first j of them. -/
def codeJ (q : PV) (f : FV) (j : Nat) : List IV := (f.code.take j).map (instrOf q f) ++ f.code.drop j
theorem codeJ_zero (q : PV) (f : FV) : codeJ q f 0 = f.code := by simp [codeJ]
theorem codeJ_all (q : PV) (f : FV) (j : Nat) (h : f.code.length ≤ j) : codeJ q f j = f.code.map (instrOf q f) := by simp [codeJ, List.take_of_length_le h, List.drop_eq_nil_of_le h]
theorem codeJ_len (q : PV) (f : FV) (j : Nat) : (codeJ q f j).length = f.code.length := by simp [codeJ]; omega
theorem codeJ_at (q : PV) (f : FV) (j : Nat) : (codeJ q f j)[j]? = f.code[j]? := by
  unfold codeJ
  by_cases h : j < f.code.length
  · rw [List.getElem?_append_right (by simp; omega)]
    simp [Nat.min_eq_left (Nat.le_of_lt h)]
  · rw [List.getElem?_eq_none (by simp; omega), List.getElem?_eq_none (by omega)]
theorem codeJ_snoc (q : PV) (f : FV) (j : Nat) (i : IV) (h : f.code[j]? = some i) : codeJ q f (j + 1) = (codeJ q f j).set j (instrOf q f i) := by
  have hj := (List.getElem?_eq_some_iff.1 h).1
  apply List.ext_getElem?
  intro k
  by_cases hk : j = k
  · subst hk
    rw [List.getElem?_set_self (by rw [codeJ_len]; exact hj)]
    unfold codeJ
    rw [List.getElem?_append_left (by simp; omega)]
    simp [h]
  · rw [List.getElem?_set_ne hk]
    unfold codeJ
    by_cases hlt : k < j
    · rw [List.getElem?_append_left (by simp; omega), List.getElem?_append_left (by simp; omega)]
      simp [hlt, show k < j + 1 by omega]
    · rw [List.getElem?_append_right (by simp; omega), List.getElem?_append_right (by simp; omega)]
      simp only [List.length_map, List.length_take, List.getElem?_drop]
      rw [show j + 1 + (k - min (j + 1) f.code.length) = k by omega, show j + (k - min j f.code.length) = k by omega]
def doneF (q : PV) (k : Nat) : List FV := (q.funcs.take k).map (finF q) ++ q.funcs.drop k
theorem doneF_zero (q : PV) : doneF q 0 = q.funcs := by simp [doneF]
theorem doneF_all (q : PV) (k : Nat) (h : q.funcs.length ≤ k) : doneF q k = q.funcs.map (finF q) := by simp [doneF, List.take_of_length_le h, List.drop_eq_nil_of_le h]
theorem doneF_len (q : PV) (k : Nat) : (doneF q k).length = q.funcs.length := by simp [doneF]; omega
theorem doneF_at (q : PV) (k : Nat) : (doneF q k)[k]? = q.funcs[k]? := by
  unfold doneF
  by_cases h : k < q.funcs.length
  · rw [List.getElem?_append_right (by simp; omega)]
    simp [Nat.min_eq_left (Nat.le_of_lt h)]
  · rw [List.getElem?_eq_none (by simp; omega), List.getElem?_eq_none (by omega)]
theorem doneF_snoc (q : PV) (k : Nat) (f : FV) (h : q.funcs[k]? = some f) : doneF q (k + 1) = (doneF q k).set k (finF q f) := by
  have hj := (List.getElem?_eq_some_iff.1 h).1
  apply List.ext_getElem?
  intro i
  by_cases hk : k = i
  · subst hk
    rw [List.getElem?_set_self (by rw [doneF_len]; exact hj)]
    unfold doneF
    rw [List.getElem?_append_left (by simp; omega)]
    simp [h]
  · rw [List.getElem?_set_ne hk]
    unfold doneF
    by_cases hlt : i < k
    · rw [List.getElem?_append_left (by simp; omega), List.getElem?_append_left (by simp; omega)]
      simp [hlt, show i < k + 1 by omega]
    · rw [List.getElem?_append_right (by simp; omega), List.getElem?_append_right (by simp; omega)]
      simp only [List.length_map, List.length_take, List.getElem?_drop]
      rw [show k + 1 + (i - min (k + 1) q.funcs.length) = i by omega, show k + (i - min k q.funcs.length) = i by omega]
theorem good_done (p : PV) : (good p).funcs = doneF (good0 p) (good0 p).funcs.length := by rw [doneF_all _ _ (Nat.le_refl _)]; rfl

/-- Where the last loop stands, and the one within it. -/
def RelI (w : World) (h : PH) (p : PV) (mu th : Int) (vf vc vs vh vx : Value) (cs ss hs : List Int) (ls : List TL) (q : PV) (s13 : Value) (wr : World) : Prop :=
  ∃ k : Nat, k ≤ q.funcs.length ∧ s13 = .int .i64 (k : Int) ∧ ∃ fs, GS w wr h p mu th vf vc vs vh vx cs ss hs fs ls ∧ fs.map TF.f = doneF q k
def RelK (w : World) (h : PH) (p : PV) (mu th : Int) (vf vc vs vh vx : Value) (cs ss hs : List Int) (ls : List TL) (q : PV) (k b1 : Nat) (f : FV) (A : Option Addr) (c : Nat) (s15 : Value) (wr : World) : Prop :=
  ∃ j : Nat, j ≤ f.code.length ∧ s15 = .int .i64 (j : Int) ∧ ∃ fs, GS w wr h p mu th vf vc vs vh vx cs ss hs fs ls ∧ fs[k]? = some ⟨⟨f.locals, codeJ q f j⟩, A, c⟩ ∧ fs.map TF.f = (doneF q k).set k ⟨f.locals, codeJ q f j⟩ ∧
    Blk wr b1 45 #[.int .i64 f.locals, .slice A f.code.length c]
def CutZ (w : World) (h : PH) (p : PV) (mu th : Int) (vc vs vh vx : Value) (cs ss hs : List Int) (ls : List TL) (wr : World) : Prop :=
  ∃ vf fs, GS w wr h p mu th vf vc vs vh vx cs ss hs fs ls ∧ fs.map TF.f = funcs0 p.funcs

theorem GS.oneF {w wr : World} {h : PH} {p : PV} {mu th : Int} {vf vc vs vh vx : Value} {cs ss hs : List Int} {ls : List TL} (g : GS w wr h p mu th vf vc vs vh vx cs ss hs [] ls) :
    GS w ((wr.alloc (.cells #[.int .i64 0, .slice none 0 0] 45)).setCell ⟨w.heap.size + 1 + 1, 0, none⟩ (.slice (some ⟨wr.heap.size, 0, none⟩) 1 1)) h p mu th (.slice (some ⟨wr.heap.size, 0, none⟩) 1 1) vc vs vh vx cs ss hs [⟨⟨0, []⟩, none, 0⟩] ls := by
  have hz := g.size
  have g2 := g.below ((Below.refl wr.heap.size wr).alloc (Nat.le_refl _) (.cells #[.int .i64 0, .slice none 0 0] 45))
  refine ⟨g2.pb.far (by simp; omega) _, g2.rb.far (by simp) _, by simpa using g2.ob.set_ 0 _, ?_, g2.bel.setCell (by simp; omega) _⟩
  have g3 := g2.op.set_below (a := ⟨w.heap.size + 1 + 1, 0, none⟩) (by simp) (.slice (some ⟨wr.heap.size, 0, none⟩) 1 1)
  refine ⟨g3.ints, g3.lrow, ?_, ?_⟩
  · refine ownsRow_setCell_below ?_ (by simp) _
    exact ⟨by simp [FS, flat2], .inr ⟨wr.heap.size, 1, #[.int .i64 0, .slice none 0 0], rfl, hz, heap_alloc_new wr _, Nat.le_refl _, by unfold maxLen; omega, rfl, rfl⟩⟩
  · refine ⟨fun r hr => ?_, by simp [TF.row]⟩
    simp at hr
    subst hr
    exact World.ownsRow_nil _ _ _ _

theorem OP.mono {w : World} {base base' : Nat} {vf vc vs vh vx : Value} {cs ss hs : List Int} {fs : List TF} {ls : List TL} (g : OP w base vf vc vs vh vx cs ss hs fs ls) (hb : base' ≤ base) : OP w base' vf vc vs vh vx cs ss hs fs ls :=
  ⟨⟨fun r hr => own_mono (g.ints.1 r hr) hb, g.ints.2⟩, own_mono g.lrow hb, own_mono g.frow hb, ⟨fun r hr => own_mono (g.code.1 r hr) hb, g.code.2⟩⟩

set_option maxHeartbeats 40000000 in
set_option maxRecDepth 100000 in
theorem good_any (h : PH) (p : PV) (w : World) (B : Nat) (hr : RP w B h p) (hB : B ≤ w.heap.size) (hfit : Fit p) :
    Calls Try.prog 7 #[.agg #[.slice h.fA p.funcs.length h.fc, .int .i64 p.mutexes, .slice h.cA p.conds.length h.cc, .slice h.sA p.semas.length h.sc, .slice h.hA p.chans.length h.hc, .slice h.xA p.choices.length h.xc, .int .i64 p.threads]] w (MadeP w p) := by
  obtain ⟨i0, hi0, hz0, hz1, hz2⟩ := info_parts info_int
  obtain ⟨j0, hj0, hy0, hy1, hy2⟩ := info_parts info_ints
  obtain ⟨n0, hn0, hx0, hx1, hx2⟩ := info_parts info_instr
  obtain ⟨m0, hm0, hv0, hv1, hv2⟩ := info_parts info_func
  have hmb := around_bd p.mutexes 4 (by omega)
  have htb := around_bd p.threads 8 (by omega)
  have hf1 := hfit.mutexes
  have hf2 := hfit.threads
  have HF := Lib.hid hfit
  have HR := Lib.hid hr
  clear hfit hr
  go_enter Try.func7, Try.ntmps7
  go_wp2_with fail
  refine (around_any _ _ _ hf1.1 hf1.2 (by omega) (by omega)).mono ?_
  rintro e w1 ⟨rfl, rfl⟩
  generalize hmu : around p.mutexes 4 = mu at *
  have HMU := Lib.hid hmu
  clear hmu
  go_wp2_with fail
  have g0 := ST.start w h p #[.slice none 0 0, .int .i64 mu, .slice none 0 0, .slice none 0 0, .slice none 0 0, .slice none 0 0, .int .i64 0]
  have G0 := Lib.hid g0
  have hr0 := HR.out.below (g0.bel.mono hB)
  have z0 := g0.bel.size
  clear g0
  refine (things_any p.conds (mu - 1) _ B _ _ _ hr0.conds HF.out.conds (by omega) (by omega) (by omega)).mono ?_
  rintro e w2 ⟨vc, rfl, hv, hb⟩
  have g1 := G0.out.things hv hb
  obtain ⟨cA, cc, rfl, _, _⟩ := own_slice hv
  generalize hcs : things p.conds (mu - 1) = cs at *
  have HCS := Lib.hid hcs
  clear hv hb hr0 z0 G0 hcs
  obtain ⟨p0, p1, p2, p3, p4, p5, p6⟩ := g1.pcells
  have oc : ∀ i, w2.cell? ⟨w.heap.size + 1 + 1, i, none⟩ = (#[.slice none 0 0, .int .i64 mu, .slice none 0 0, .slice none 0 0, .slice none 0 0, .slice none 0 0, .int .i64 0] : Array Value)[i]? := g1.ob.cell
  have o2 := (oc 2).trans rfl
  have o1 := (oc 1).trans rfl
  have fo := g1.ob.frozen 2
  have sz := g1.size
  clear oc
  have g2 := g1.set 2 (.slice cA cs.length cc)
  have G2 := Lib.hid g2
  have hr2 := HR.out.below (g2.bel.mono hB)
  have z2 := g2.bel.size
  clear g1 g2
  go_wp2_with fail
  clear p0 p1 p2 p3 p4 p5 p6 o2 o1 fo
  refine (things_any p.semas 3 _ B _ _ _ hr2.semas HF.out.semas (by omega) (by omega) (by omega)).mono ?_
  rintro e w3 ⟨vs, rfl, hv, hb⟩
  have g1 := G2.out.things hv hb
  obtain ⟨sA, sc, rfl, _, _⟩ := own_slice hv
  generalize hss : things p.semas 3 = ss at *
  have HSS := Lib.hid hss
  clear hv hb hr2 z2 G2 hss
  obtain ⟨p0, p1, p2, p3, p4, p5, p6⟩ := g1.pcells
  have oc : ∀ i, w3.cell? ⟨w.heap.size + 1 + 1, i, none⟩ = (#[.slice none 0 0, .int .i64 mu, .slice cA cs.length cc, .slice none 0 0, .slice none 0 0, .slice none 0 0, .int .i64 0] : Array Value)[i]? := g1.ob.cell
  have o3 := (oc 3).trans rfl
  have o1 := (oc 1).trans rfl
  have fo := g1.ob.frozen 3
  have sz := g1.size
  clear oc
  have g2 := g1.set 3 (.slice sA ss.length sc)
  have G3 := Lib.hid g2
  have hr3 := HR.out.below (g2.bel.mono hB)
  have z3 := g2.bel.size
  clear g1 g2
  go_wp2_with fail
  clear p0 p1 p2 p3 p4 p5 p6 o3 o1 fo
  refine (things_any p.chans 3 _ B _ _ _ hr3.chans HF.out.chans (by omega) (by omega) (by omega)).mono ?_
  rintro e w4 ⟨vh, rfl, hv, hb⟩
  have g1 := G3.out.things hv hb
  obtain ⟨hA, hc, rfl, _, _⟩ := own_slice hv
  generalize hhs : things p.chans 3 = hs at *
  have HHS := Lib.hid hhs
  clear hv hb hr3 z3 G3 hhs
  obtain ⟨p0, p1, p2, p3, p4, p5, p6⟩ := g1.pcells
  have oc : ∀ i, w4.cell? ⟨w.heap.size + 1 + 1, i, none⟩ = (#[.slice none 0 0, .int .i64 mu, .slice cA cs.length cc, .slice sA ss.length sc, .slice none 0 0, .slice none 0 0, .int .i64 0] : Array Value)[i]? := g1.ob.cell
  have o4 := (oc 4).trans rfl
  have o1 := (oc 1).trans rfl
  have fo := g1.ob.frozen 4
  have sz := g1.size
  clear oc
  have g2 := g1.set 4 (.slice hA hs.length hc)
  have G4 := Lib.hid g2
  have hr4 := HR.out.below (g2.bel.mono hB)
  have z4 := g2.bel.size
  clear g1 g2
  go_wp2_with fail
  clear p0 p1 p2 p3 p4 p5 p6 o4 o1 fo
  refine (around_any _ _ _ hf2.1 hf2.2 (by omega) (by omega)).mono ?_
  rintro e w5 ⟨rfl, rfl⟩
  obtain ⟨p0, p1, p2, p3, p4, p5, p6⟩ := G4.out.pcells
  have oc : ∀ i, _ := G4.out.ob.cell
  have o6 := (oc 6).trans rfl
  have fo := G4.out.ob.frozen 6
  have g5 := G4.out.set 6 (.int .i64 (1 + around p.threads 8))
  have G5 := Lib.hid g5
  clear g5 oc G4 hr4 z4
  go_upto_block 0 with fail
  clear p0 p1 p2 p3 p4 p5 p6 o6 fo
  go_cut [] (fun wx => CutL w h p mu (1 + around p.threads 8) (.slice cA cs.length cc) (.slice sA ss.length sc) (.slice hA hs.length hc) cs ss hs wx)
  case first =>
    have hh4 : hs.length ≤ 4 := by rw [← HHS.out]; exact things_len _ _
    go_wp2_with fail
    go_loopw [4] (fun s4 wr => RelL w h p mu (1 + around p.threads 8) (.slice cA cs.length cc) (.slice sA ss.length sc) (.slice hA hs.length hc) cs ss hs s4 wr) (fun s4 _ => 4 - (intOf s4).toNat)
    case atStart =>
      exact ⟨0, by omega, by omega, rfl, _, _, G5.out.gs (by simp), by simp [choices0]⟩
    case round =>
      obtain ⟨k, hk4, hkl, rfl, vx, ls, g, hls⟩ := hrel
      have G := Lib.hid g
      have HLS := Lib.hid hls
      obtain ⟨p0, p1, p2, p3, p4, p5, p6⟩ := g.st.pcells
      obtain ⟨o0, o1, o2, o3, o4, o5, o6⟩ := g.ocells
      have sz := g.size
      have hrp := HR.out.below (g.bel.mono hB)
      clear g hls
      by_cases hin : k < p.choices.length ∧ k < 4
      · obtain ⟨hlt, h4⟩ := hin
        obtain ⟨ad, t, hfA, hab, htl, hcell, hrt⟩ := hrp.choices.at_ hlt
        have hft : FitL t.l := HF.out.choices _ (List.mem_of_getElem? htl)
        have HTL := Lib.hid htl
        have HRT := Lib.hid hrt
        have HFT := Lib.hid hft
        clear hrp htl hrt hft
        rw [hfA] at p5
        clear hfA
        have e1 : IntKind.i64.wrap ((hs.length : Int) - 1) = (hs.length : Int) - 1 := IntWalk.i64_in _ (by omega)
        go_wp2_with fail
        go_region_held3 (fun w' => w'.cell? ⟨w.heap.size, 5, none⟩ = some (.slice (some ad) p.choices.length h.xc) ∧ w'.cell? (ad.add k) = some (.slice t.A t.l.length t.c) ∧ w'.cell? ⟨w.heap.size + 1 + 1, 4, none⟩ = some (.slice hA hs.length hc))
          (first | go_keep | exact ⟨(hb5.cell (p := ⟨w.heap.size, 5, none⟩) (show _ < wr.heap.size by show w.heap.size < _; omega)).trans p5, (hb5.cell (p := ad.add k) (show _ < wr.heap.size by rw [block_of_add]; omega)).trans hcell, (hb5.cell (p := ⟨w.heap.size + 1 + 1, 4, none⟩) (show _ < wr.heap.size by show w.heap.size + 1 + 1 < _; omega)).trans o4⟩)
          ((go_simp; refine (things_any t.l ((hs.length : Int) - 1) wr.drew B _ _ _ (HRT.out.keep (fun _ _ => rfl)) HFT.out (by have := G.out.bel.size; simp; omega) (by omega) (by omega)).mono ?_; rintro e wi ⟨v5, rfl, hv5, hb5⟩))
        have hb : Below wr.heap.size wr wi := ((Below.refl _ _).drew).trans hb5
        have hv5' : wi.ownsRow wr.heap.size 3 1 v5 (things t.l ((hs.length : Int) - 1)).length (IS (things t.l ((hs.length : Int) - 1))) := hv5
        have hl4 := things_len t.l ((hs.length : Int) - 1)
        obtain ⟨xA, xc, rfl, hxc, hrd5⟩ := own_slice hv5'
        have hfo : ∀ x ∈ things t.l ((hs.length : Int) - 1), 0 ≤ x ∧ x ≤ (hs.length : Int) - 1 := things_bd _ _
        generalize howns : things t.l ((hs.length : Int) - 1) = own at *
        have HOWN := Lib.hid howns
        have HRD := Lib.hid hrd5
        have HFO := Lib.hid hfo
        have HB := Lib.hid hb
        have zi := hb.size
        clear howns hv5 hv5' hb5 hrd5 hb hfo e1 hcell p0 p1 p2 p3 p4 p5 p6 o0 o1 o2 o3 o4 o5 o6
        obtain ⟨wb, rfl⟩ : ∃ x, x = wr := ⟨_, rfl⟩
        go_wp2_with fail
        go_loopw [6, 7] (fun s6 s7 w' => RelD wi own s6 s7 w') (fun _ s7 _ => 4 - (intOf s7).toNat)
        case atStart => exact ⟨0, by omega, rfl, by simpa [dedup, IS] using World.ownsRow_nil wi wi.heap.size 3 1, Below.refl _ _⟩
        case round =>
          obtain ⟨wd, rfl⟩ : ∃ x, x = wr := ⟨_, rfl⟩
          obtain ⟨k2, hk2, rfl, hol, hbl⟩ := hrel
          have hd4 := dedup_four own k2 hl4
          obtain ⟨lA, lc, rfl, hlc, hrl⟩ := own_slice hol
          generalize hld : dedup [] (own.take k2) = l at *
          have HLD := Lib.hid hld
          have HOL := Lib.hid hol
          have HBL := Lib.hid hbl
          have HRL := Lib.hid hrl
          have zl := hbl.size
          clear hld hol hbl hrl
          by_cases hk2lt : k2 < own.length
          · obtain ⟨ad2, x, rfl, hab2, hx, hcx⟩ := RI.at_ ⟨rfl, hxc, HRD.out⟩ hk2lt
            have hcx' : wd.cell? (ad2.add k2) = some (.int .i64 x) := (HBL.out.cell (p := ad2.add k2) (by rw [block_of_add]; omega)).trans hcx
            have hds := dedup_snoc own k2 x hx
            rw [HLD.out] at hds
            have HDS := Lib.hid hds
            clear hx hcx hds
            go_wp2_with fail
            go_loopw [8, 9] (fun s8 s9 w' => RelJ l x wd s8 s9 w') (fun _ s9 _ => 4 - (intOf s9).toNat)
            case atStart => exact ⟨0, by omega, rfl, ⟨_, rfl, hasB_zero _ _⟩, 0, rfl⟩
            case round =>
              obtain ⟨j, hj, rfl, ⟨b, rfl, hbj⟩, nn, rfl⟩ := hrel
              by_cases hjl : j < l.length
              · obtain ⟨ad3, y, rfl, hab3, hy, hcy⟩ := RI.at_ ⟨rfl, hlc, HRL.out⟩ hjl
                have HSN := Lib.hid (hasB_snoc (x := x) hy)
                have i1 : (j : Int) < (l.length : Int) := by omega
                have i2 : (k2 : Int) < (own.length : Int) := by omega
                have i3 : (0 : Int) ≤ (j : Int) := by omega
                have i4 : (0 : Int) ≤ (k2 : Int) := by omega
                clear hy
                cases b
                · go_wp2_with fail
                  go_quiet (fail)
                  go_wp2_with fail
                  refine ⟨⟨j + 1, by omega, by go_num, ⟨_, rfl, by rw [HSN.out, hbj.out]; rfl⟩, _, rfl⟩, by simp [intOf]; omega⟩
                · go_wp2_with fail
                  go_quiet (fail)
                  go_wp2_with fail
                  refine ⟨⟨j + 1, by omega, by go_num, ⟨_, rfl, by rw [HSN.out, hbj.out]; rfl⟩, _, rfl⟩, by simp [intOf]; omega⟩
              · have HAL := Lib.hid (hasB_all x (show l.length ≤ j by omega))
                cases b
                · go_wp2_with (at_builtin; go_must (refine wpList_append_any _ rfl (.tmp 87) (.tmp 92) _ rfl wi.heap.size 3 i0 _ 1 8 Try.underlying23 hi0 hz0 hz1 hz2 rfl (by decide) (.slice lA l.length lc) _ _ rfl (HOL.out.alloc _) (wd.heap.size + 1) (some ⟨wd.heap.size, 0, none⟩) 1 1 [.int .i64 x] rfl ?c0 ?c3 ?c1 ?c2 (by simp; omega) ?k))
                  case c0 => exact reads_new (wd.drewN nn) _ _
                  case c3 => intro u hu; simp at hu; subst hu; rfl
                  case c1 => unfold maxLen; omega
                  case c2 => omega
                  case k =>
                  intro v' w2' hown2 hg2 hat2
                  go_wp2_with fail
                  have hds : dedup [] (own.take (k2 + 1)) = l ++ [x] := by rw [HDS.out, ← HAL.out, hbj.out]; rfl
                  refine ⟨⟨k2 + 1, by omega, by go_num, ?_, ?_⟩, by simp [intOf]; omega⟩
                  · rw [hds, ← IS_append, List.length_append]
                    exact hown2
                  · exact (((below_drews HBL.out nn).alloc zl _)).grown hg2 (by simp; omega) (fun i hi => (HOL.out.lt i hi).1)
                · go_wp2_with fail
                  have hds : dedup [] (own.take (k2 + 1)) = l := by rw [HDS.out, ← HAL.out, hbj.out]; rfl
                  refine ⟨⟨k2 + 1, by omega, by go_num, ?_, ?_⟩, by simp [intOf]; omega⟩
                  · rw [hds]; exact HOL.out
                  · exact below_drews HBL.out nn
          · have hall : dedup [] own = l := by rw [← HLD.out, List.take_of_length_le (by omega)]
            have hbw : Below wb.heap.size wb wd := HB.out.trans (HBL.out.mono zi)
            have gd := G.out.below hbw
            obtain ⟨_, _, _, _, _, o5, _⟩ := gd.ocells
            have f5 := gd.ob.frozen 5
            have szd := gd.size
            have zw := hbw.size
            obtain ⟨vA, vc', hvx, _, _⟩ := own_slice gd.op.lrow
            have hcs := choices0_snoc p.choices hs.length k t.l HTL.out h4
            rw [HOWN.out, hall] at hcs
            have HCN := Lib.hid hcs
            have HVX := Lib.hid hvx
            have HBW := Lib.hid hbw
            have GD := Lib.hid gd
            have hll : ls.length ≤ 4 := by
              have h1 := congrArg List.length HLS.out
              rw [List.length_map] at h1
              have h2 := (choices_good (p.choices.take k) hs.length).2
              omega
            rw [hvx] at o5
            clear hall hcs hvx hbw gd
            by_cases hne : 0 < l.length
            · go_wp2_with (at_builtin; go_must (refine wpList_append_any _ rfl (.tmp 98) (.tmp 100) _ rfl (w.heap.size + 1 + 1 + 1) 23 j0 _ 1 24 Try.underlying24 hj0 hy0 hy1 hy2 rfl (by decide) (.slice vA ls.length vc') _ _ rfl (HVX.out ▸ GD.out.op.lrow.alloc _) (wd.heap.size + 1) (some ⟨wd.heap.size, 0, none⟩) 1 1 [.slice lA l.length lc] rfl ?c0 ?c3 ?c1 ?c2 (by simp; omega) ?k))
              case c0 => exact reads_new wd _ _
              case c3 => intro u hu; simp at hu; subst hu; rfl
              case c1 => unfold maxLen; omega
              case c2 => omega
              case k =>
              intro v' w2' hown2 hg2 hat2
              have hg := G.out.pushL HBW.out ⟨l, lA, lc⟩ (own_mono HOL.out zi) (HVX.out ▸ hg2) hown2
              obtain ⟨nA, nc, rfl, _, _⟩ := own_slice hown2
              have HG := Lib.hid hg
              have o5' : w2'.cell? ⟨w.heap.size + 1 + 1, 5, none⟩ = some (.slice vA ls.length vc') := by
                rw [((GD.out.ob.alloc (.cells #[.slice lA l.length lc] 23)).grown (HVX.out ▸ hg2) (fun e => by have := (GD.out.op.lrow.lt _ e.symm).1; omega)).cell 5, HVX.out]
                rfl
              have f5' : w2'.frozen? ⟨w.heap.size + 1 + 1, 5, none⟩ = false := ((GD.out.ob.alloc (.cells #[.slice lA l.length lc] 23)).grown (HVX.out ▸ hg2) (fun e => by have := (GD.out.op.lrow.lt _ e.symm).1; omega)).frozen 5
              clear hg hown2 hg2 hat2 o5 f5
              go_wp2_with fail
              refine ⟨⟨k + 1, by omega, by omega, by go_num, _, ls ++ [⟨l, lA, lc⟩], HG.out, ?_⟩, by simp [intOf]; omega⟩
              rw [HCN.out, List.map_append, HLS.out, if_neg (by simp; intro e; rw [e] at hne; simp at hne)]
              rfl
            · have hl0 : l = [] := List.eq_nil_of_length_eq_zero (by omega)
              have HL0 := Lib.hid hl0
              clear hl0
              go_wp2_with fail
              refine ⟨⟨k + 1, by omega, by omega, by go_num, vx, ls, GD.out, by rw [HCN.out, HLS.out, HL0.out]; simp⟩, by simp [intOf]; omega⟩
      · have ht := choices0_take p.choices hs.length k (by omega)
        rw [ht] at HLS
        clear ht hrp
        by_cases h1 : k < p.choices.length
        · have h2 : ¬ k < 4 := by omega
          clear hin
          go_wp2_with fail
          go_meet
          exact ⟨vx, ls, G.out, HLS.out⟩
        · clear hin
          go_wp2_with fail
          go_meet
          exact ⟨vx, ls, G.out, HLS.out⟩
  case rest =>
    obtain ⟨vx, ls, g, hls⟩ := hcut
    have HLS := Lib.hid hls
    have G := Lib.hid g
    clear g hls
    go_upto_block 6 with fail
    go_cut [] (fun wx => CutF w h p mu (1 + around p.threads 8) (.slice cA cs.length cc) (.slice sA ss.length sc) (.slice hA hs.length hc) vx cs ss hs ls wx)
    case first =>
      go_wp2_with fail
      go_loopw [10] (fun s10 wr => RelF w h p mu (1 + around p.threads 8) (.slice cA cs.length cc) (.slice sA ss.length sc) (.slice hA hs.length hc) vx cs ss hs ls s10 wr) (fun s10 _ => 4 - (intOf s10).toNat)
      case atStart => exact ⟨0, by omega, by omega, rfl, _, [], G.out, rfl⟩
      case round =>
        obtain ⟨wb, rfl⟩ : ∃ x, x = wr := ⟨_, rfl⟩
        obtain ⟨k, hk4, hkl, rfl, vf, fs, g, hfs⟩ := hrel
        have GF := Lib.hid g
        have HFS := Lib.hid hfs
        obtain ⟨p0, p1, p2, p3, p4, p5, p6⟩ := g.st.pcells
        have szb := g.size
        have hrp := HR.out.below (g.bel.mono hB)
        have zb := g.bel.size
        clear g hfs
        by_cases hin : k < p.funcs.length ∧ k < 4
        · obtain ⟨hlt, h4⟩ := hin
          obtain ⟨ad, t, hfA, hab, htl, hc0, hc1, hrt⟩ := hrp.funcs.at_ hlt
          have hft : FitF t.f := HF.out.funcs _ (List.mem_of_getElem? htl)
          have hlo := hft.1
          have HTL := Lib.hid htl
          have HRT := Lib.hid hrt
          have HFT := Lib.hid hft
          rw [hfA] at p0
          clear hrp htl hrt hft hfA p1 p2 p3 p4 p5 p6
          go_wp2_with fail
          refine (around_any _ _ _ hlo.1 hlo.2 (by omega) (by omega)).mono ?_
          rintro e wi ⟨rfl, rfl⟩
          generalize hlo4 : around t.f.locals 4 = lo
          have HLO := Lib.hid hlo4
          clear hlo4
          go_wp2_with fail
          have P0 := Lib.hid p0
          have C0 := Lib.hid hc0
          have C1 := Lib.hid hc1
          clear p0 hc0 hc1
          go_loopw [12] (fun s12 w' => RelC wb t.f lo s12 w') (fun s12 _ => 24 - (intOf s12).toNat)
          case atStart => exact ⟨0, by omega, by omega, rfl, none, 0, Blk.new wb _ _, by simpa [CS, flat2] using World.ownsRow_nil (wb.alloc (.cells #[.int .i64 lo, .slice none 0 0] 45)) (wb.heap.size + 1) 47 2, (Below.refl _ _).alloc (Nat.le_refl _) _⟩
          case round =>
            obtain ⟨wd, rfl⟩ : ∃ x, x = wr := ⟨_, rfl⟩
            obtain ⟨j, hj24, hjl, rfl, kA, kc, hbx, hown, hbel⟩ := hrel
            have zd := hbel.size
            have hbl := hbx.lt
            have d0 : wd.cell? ⟨w.heap.size, 0, none⟩ = _ := (hbel.cell (p := ⟨w.heap.size, 0, none⟩) (show w.heap.size < _ by omega)).trans P0.out
            have d1 : wd.cell? ⟨(ad.add (k * 2)).block, (ad.add (k * 2)).off + 1, none⟩ = _ := (hbel.cell (p := ⟨(ad.add (k * 2)).block, (ad.add (k * 2)).off + 1, none⟩) (show (ad.add (k * 2)).block < _ by rw [block_of_add]; omega)).trans C1.out
            have x0 : wd.cell? ⟨wb.heap.size, 0, none⟩ = some (.int .i64 lo) := (hbx.cell 0).trans rfl
            have x1 : wd.cell? ⟨wb.heap.size, 1, none⟩ = some (.slice kA j kc) := (hbx.cell 1).trans rfl
            have xf := hbx.frozen 1
            have HBX := Lib.hid hbx
            have HOW := Lib.hid hown
            have HBD := Lib.hid hbel
            clear hbx hown hbel
            by_cases hin2 : j < t.f.code.length ∧ j < 24
            · obtain ⟨hjlt, hj2⟩ := hin2
              obtain ⟨ad2, i, hkA2, hab2, hi, ci0, ci1⟩ := HRT.out.at_ hjlt
              have di0 : wd.cell? (ad2.add (j * 2)) = _ := (HBD.out.cell (p := ad2.add (j * 2)) (by rw [block_of_add]; omega)).trans ci0
              have di1 : wd.cell? ⟨(ad2.add (j * 2)).block, (ad2.add (j * 2)).off + 1, none⟩ = _ := (HBD.out.cell (p := ⟨(ad2.add (j * 2)).block, (ad2.add (j * 2)).off + 1, none⟩) (show (ad2.add (j * 2)).block < _ by rw [block_of_add]; omega)).trans ci1
              rw [hkA2] at d1
              have HI := Lib.hid hi
              clear hi ci0 ci1 hkA2
              go_wp2_with fail
              go_region_law
                ((refine step_append_any _ (by rfl) (.tmp 138) (.tmp 148) _ (by rfl) (wb.heap.size + 1) 47 n0 _ 2 16 Try.underlying43 hn0 hx0 hx1 hx2 rfl (by decide) (.slice kA j kc) j (CS (t.f.code.take j)) (by rfl) ((HOW.out.alloc _).drew) (wd.heap.size + 1) (some ⟨wd.heap.size, 0, none⟩) 1 1 [.int .i64 i.op, .int .i64 i.a] (by rfl) (reads_new2 wd _ _ _).drew (by intro u hu; simp at hu; rcases hu with rfl | rfl <;> rfl) (by unfold maxLen; omega) (by omega) (by simp; omega) ?_
                  intro v3 w3 hown3 hg3 hat3
                  obtain ⟨A3, c3, rfl, _, _⟩ := own_slice hown3
                  have hb3 := (HBX.out.alloc (.cells #[.int .i64 i.op, .int .i64 i.a] 47)).drew.grown hg3 (fun e => by have := (HOW.out.lt _ e.symm).1; omega)
                  have y1 : w3.cell? ⟨wb.heap.size, 1, none⟩ = some (.slice kA j kc) := (hb3.cell 1).trans rfl
                  have yf := hb3.frozen 1))
              all_goals
                go_wp2_with fail
                refine ⟨⟨j + 1, by omega, by omega, by go_num, A3, c3, ?_, ?_, ?_⟩, by simp [intOf]; omega⟩
                · simpa using hb3.set_ 1 (.slice A3 (j + 1) c3)
                · rw [CS_snoc HI.out]
                  exact ownsRow_setCell_below hown3 (by simp) _
                · exact (((HBD.out.alloc zd _).drew).grown hg3 (by simp; omega) (fun i hi => by have := (HOW.out.lt i hi).1; omega)).setCell (by simp) _
            · have hj : j = (t.f.code.take 24).length := by simp; omega
              have gd := GF.out.below HBD.out
              obtain ⟨o0, _, _, _, _, _, _⟩ := gd.ocells
              have szd := gd.size
              obtain ⟨vA, vc', hvf, _, _⟩ := own_slice gd.op.frow
              have HVF := Lib.hid hvf
              have GD := Lib.hid gd
              have hll : fs.length ≤ 4 := by
                have h1 := congrArg List.length HFS.out
                simp at h1
                omega
              have hcut : t.f.code.take j = t.f.code.take 24 := by
                rcases Nat.lt_or_ge j 24 with h | h
                · rw [List.take_of_length_le (by omega), List.take_of_length_le (by omega)]
                · rw [show j = 24 by omega]
              rw [hvf] at o0
              rw [hcut] at HOW
              have HJ := Lib.hid hj
              clear hvf gd hcut hj
              by_cases h1 : j < t.f.code.length
              all_goals
                try have h2 : 24 ≤ j := by omega
                clear hin2
                go_wp2_with (at_builtin; go_must (refine wpList_append_any _ rfl (.tmp 152) (.tmp 154) _ rfl (w.heap.size + 1 + 1 + 1) 45 m0 _ 2 32 Try.underlying22 hm0 hv0 hv1 hv2 rfl (by decide) (.slice vA fs.length vc') _ _ rfl (HVF.out ▸ GD.out.op.frow.alloc _) (wd.heap.size + 1) (some ⟨wd.heap.size, 0, none⟩) 1 1 [.int .i64 lo, .slice kA j kc] rfl ?c0 ?c3 ?c1 ?c2 (by simp; omega) ?k))
                case c0 => exact reads_new2 wd _ _ _
                case c3 => intro u hu; simp at hu; rcases hu with rfl | rfl <;> rfl
                case c1 => unfold maxLen; omega
                case c2 => omega
                case k =>
                intro v' w2' hown2 hg2 hat2
                have ht : wd.ownsRow wb.heap.size 47 2 (TF.val ⟨⟨lo, t.f.code.take 24⟩, kA, kc⟩) (t.f.code.take 24).length (CS (t.f.code.take 24)) := by
                  have := own_mono (base := wb.heap.size) HOW.out (by omega)
                  rw [HJ.out] at this
                  exact this
                have hown3 := hown2
                rw [HJ.out] at hown3
                have hg := GF.out.pushF HBD.out ⟨⟨lo, t.f.code.take 24⟩, kA, kc⟩ ht (HVF.out ▸ hg2) hown3
                have o0' : w2'.cell? ⟨w.heap.size + 1 + 1, 0, none⟩ = some (.slice vA fs.length vc') := by
                  rw [((GD.out.ob.alloc (.cells #[.int .i64 lo, .slice kA j kc] 45)).grown (HVF.out ▸ hg2) (fun e => by have := (GD.out.op.frow.lt _ e.symm).1; omega)).cell 0, HVF.out]
                  rfl
                have f0' : w2'.frozen? ⟨w.heap.size + 1 + 1, 0, none⟩ = false := ((GD.out.ob.alloc (.cells #[.int .i64 lo, .slice kA j kc] 45)).grown (HVF.out ▸ hg2) (fun e => by have := (GD.out.op.frow.lt _ e.symm).1; omega)).frozen 0
                obtain ⟨nA, nc, rfl, _, _⟩ := own_slice hown2
                have HG := Lib.hid hg
                clear hg hown2 hown3 ht hg2 hat2 o0 d0 d1 x0 x1 xf
                go_wp2_with fail
                refine ⟨⟨k + 1, by omega, by omega, by go_num, _, fs ++ [⟨⟨lo, t.f.code.take 24⟩, kA, kc⟩], HG.out, ?_⟩, by simp [intOf]; omega⟩
                rw [show p.funcs.take (k + 1) = p.funcs.take k ++ [t.f] by rw [List.take_add_one, HTL.out]; rfl, List.map_append, List.map_append, HFS.out, ← HLO.out]
                rfl
        · have ht : p.funcs.take k = p.funcs.take 4 := by
            rcases Nat.lt_or_ge k 4 with h | h
            · rw [List.take_of_length_le (by omega), List.take_of_length_le (by omega)]
            · rw [show k = 4 by omega]
          rw [ht] at HFS
          clear ht hrp
          by_cases h1 : k < p.funcs.length
          all_goals
            try have h2 : ¬ k < 4 := by omega
            clear hin
            go_wp2_with fail
            go_meet
            exact ⟨vf, fs, GF.out, HFS.out⟩
    case rest =>
      obtain ⟨vf, fs, g, hfs⟩ := hcut
      have HFS := Lib.hid hfs
      have GF := Lib.hid g
      clear g hfs G
      obtain ⟨o0, _, _, _, _, _, _⟩ := GF.out.ocells
      have f0 := GF.out.ob.frozen 0
      obtain ⟨vA, vc', hvf, _, _⟩ := own_slice GF.out.op.frow
      rw [hvf] at o0
      have HVF := Lib.hid hvf
      clear hvf
      go_upto_if 160 with fail
      go_cut [] (fun wx => CutZ w h p mu (1 + around p.threads 8) (.slice cA cs.length cc) (.slice sA ss.length sc) (.slice hA hs.length hc) vx cs ss hs ls wx)
      case first =>
        by_cases h0 : fs = []
        · have hb0 : ((fs.length : Int) == 0) = true := by rw [h0]; rfl
          have hp0 : p.funcs = [] := by
            have h1 := HFS.out
            rw [h0] at h1
            simp at h1
            exact h1
          have HP0 := Lib.hid hp0
          have H0 := Lib.hid h0
          have f0' := (GF.out.ob.alloc (.cells #[.int .i64 0, .slice none 0 0] 45)).frozen 0
          have o0' : (wc.alloc (.cells #[.int .i64 0, .slice none 0 0] 45)).cell? ⟨w.heap.size + 1 + 1, 0, none⟩ = some (.slice vA fs.length vc') := by
            rw [(GF.out.ob.alloc (.cells #[.int .i64 0, .slice none 0 0] 45)).cell 0, HVF.out]; rfl
          clear hp0 h0
          go_wp2_with fail
          go_meet
          have h2 := GF.out
          rw [H0.out] at h2
          exact ⟨.slice (some ⟨wc.heap.size, 0, none⟩) 1 1, [⟨⟨0, []⟩, none, 0⟩], h2.oneF, by rw [HP0.out]; rfl⟩
        · have hb0 : ((fs.length : Int) == 0) = false := by
            rw [beq_eq_false_iff_ne]
            intro e
            exact h0 (List.eq_nil_of_length_eq_zero (by omega))
          have hp0 : ¬ p.funcs = [] := fun e => h0 (by have h1 := HFS.out; rw [e] at h1; simpa using h1)
          have HP0 := Lib.hid hp0
          clear hp0 h0
          go_wp2_with fail
          go_meet
          exact ⟨_, fs, GF.out, by rw [HFS.out, funcs0, if_neg HP0.out]; rfl⟩
      case rest =>
        obtain ⟨vf2, fs2, g, hfs2⟩ := hcut
        have hq1 : (good0 p).funcs = funcs0 p.funcs := rfl
        have hq2 : (good0 p).mutexes = mu := HMU.out
        have hq3 : (good0 p).conds = cs := by rw [← HCS.out, ← HMU.out]; rfl
        have hq4 : (good0 p).semas = ss := HSS.out
        have hq5 : (good0 p).chans = hs := HHS.out
        have hq6 : (good0 p).choices = ls.map TL.l := by rw [HLS.out, ← HHS.out]; rfl
        have hq7 : (good0 p).threads = 1 + around p.threads 8 := rfl
        have hqh := good0_head p
        have hqb := funcs0_bd p.funcs
        have hql : ∀ f ∈ (good0 p).funcs, FitC f.code := by
          intro f hf
          have hf' : f ∈ funcs0 p.funcs := hf
          unfold funcs0 at hf'
          split at hf'
          · simp at hf'; subst hf'; intro i hi; simp at hi
          · obtain ⟨f1, hf1, rfl⟩ := List.mem_map.1 hf'
            exact fun i hi => (HF.out.funcs f1 (List.mem_of_mem_take hf1)).2 i (List.mem_of_mem_take hi)
        rw [← hq1] at hqb hfs2
        have hgd := good_done p
        have hgm : (good p).mutexes = mu ∧ (good p).conds = cs ∧ (good p).semas = ss ∧ (good p).chans = hs ∧ (good p).choices = ls.map TL.l ∧ (good p).threads = 1 + around p.threads 8 := ⟨hq2, hq3, hq4, hq5, hq6, hq7⟩
        generalize good0 p = q at *
        obtain ⟨fA, fc, rfl, _, _⟩ := own_slice g.op.frow
        obtain ⟨xA, xc, rfl, _, _⟩ := own_slice g.op.lrow
        have hql4 : q.funcs.length ≤ 4 := hqb.2.1
        have Q2 := Lib.hid hq2; have Q3 := Lib.hid hq3; have Q4 := Lib.hid hq4; have Q5 := Lib.hid hq5; have Q6 := Lib.hid hq6; have Q7 := Lib.hid hq7
        have QH := Lib.hid hqh; have QB := Lib.hid hqb; have QL := Lib.hid hql; have QD := Lib.hid hgd; have QM := Lib.hid hgm
        have G2 := Lib.hid g; have HF2 := Lib.hid hfs2
        have hf2l : fs2.length = q.funcs.length := by rw [← hfs2, List.length_map]
        have HF2L := Lib.hid hf2l
        have o0 := g.ocells.1
        clear hq1 hq2 hq3 hq4 hq5 hq6 hq7 hqh hqb hql hgd hgm g hfs2 hf2l GF HFS HVF f0
        go_wp2_with fail
        go_loopw [13] (fun s13 wr => RelI w h p mu (1 + around p.threads 8) (.slice fA fs2.length fc) (.slice cA cs.length cc) (.slice sA ss.length sc) (.slice hA hs.length hc) (.slice xA ls.length xc) cs ss hs ls q s13 wr) (fun s13 _ => 4 - (intOf s13).toNat)
        case atStart => exact ⟨0, by omega, rfl, fs2, G2.out, by rw [HF2.out, doneF_zero]⟩
        case round =>
          obtain ⟨wb, rfl⟩ : ∃ x, x = wr := ⟨_, rfl⟩
          obtain ⟨k, hkl, rfl, fs, g, hfs⟩ := hrel
          have hfl : fs.length = q.funcs.length := by have := congrArg List.length hfs; rwa [List.length_map, doneF_len] at this
          obtain ⟨o0, o1, o2, o3, o4, o5, o6⟩ := g.ocells
          have szb := g.size
          have GG := Lib.hid g
          have HFS := Lib.hid hfs
          have hl2 : fs2.length = fs.length := by rw [HF2L.out, hfl]
          by_cases hlt : k < q.funcs.length
          · have htk : fs[k]? = some fs[k] := List.getElem?_eq_getElem (by omega)
            generalize fs[k]'(by omega) = t at htk
            have hff : q.funcs[k]? = some t.f := by
              rw [← doneF_at, ← hfs, List.getElem?_map, htk]; rfl
            obtain ⟨e1, e2⟩ := FS_at htk
            obtain ⟨_, _, hvv, _, hrd⟩ := own_slice g.op.frow
            injection hvv with hv1 hv2 hv3
            subst hv1 hv3
            obtain ⟨ad, hfA, hab, c0, c1⟩ := hrd.pair (by omega) e1 e2
            have HFF := Lib.hid hff; have HTK := Lib.hid htk; have HL2 := Lib.hid hl2; have HFL := Lib.hid hfl
            rw [hfA] at o0
            have hin : k < fs2.length := by omega
            have HFA := Lib.hid hfA
            clear g hfs hff htk e1 e2 hv2 hrd hfl hl2 hfA
            go_wp2_with fail
            have G1 := Lib.hid (GG.out.below ((Below.refl wb.heap.size wb).alloc (Nat.le_refl _) (.cells #[.int .i64 t.f.locals, .slice t.A t.f.code.length t.c] 45)))
            clear c0 c1 o0 o1 o2 o3 o4 o5 o6
            go_loopw [15] (fun s15 w' => RelK w h p mu (1 + around p.threads 8) (.slice fA fs2.length fc) (.slice cA cs.length cc) (.slice sA ss.length sc) (.slice hA hs.length hc) (.slice xA ls.length xc) cs ss hs ls q k wb.heap.size t.f t.A t.c s15 w') (fun s15 _ => t.f.code.length - (intOf s15).toNat)
            case atStart =>
              refine ⟨0, by omega, rfl, fs, G1.out, by rw [codeJ_zero]; exact HTK.out, ?_, Blk.new wb _ _⟩
              rw [codeJ_zero, HFS.out, set_same (by rw [doneF_at]; exact HFF.out)]
            case round =>
              obtain ⟨wd, rfl⟩ : ∃ x, x = wr := ⟨_, rfl⟩
              obtain ⟨j, hjl, rfl, fs', g', htk', hfs', hbx⟩ := hrel
              obtain ⟨o0, o1, o2, o3, o4, o5, o6⟩ := g'.ocells
              have x0 : wd.cell? ⟨wb.heap.size, 0, none⟩ = some (.int .i64 t.f.locals) := (hbx.cell 0).trans rfl
              have x1 : wd.cell? ⟨wb.heap.size, 1, none⟩ = some (.slice t.A t.f.code.length t.c) := (hbx.cell 1).trans rfl
              have szd := g'.size
              have hbl := hbx.lt
              have GD := Lib.hid g'; have HBX := Lib.hid hbx; have HF3 := Lib.hid hfs'; have HT3 := Lib.hid htk'
              by_cases hjlt : j < t.f.code.length
              · have hrow := g'.op.code.1 (TF.row ⟨⟨t.f.locals, codeJ q t.f j⟩, t.A, t.c⟩) (List.mem_map_of_mem (List.mem_of_getElem? htk'))
                have hlen : (codeJ q t.f j).length = t.f.code.length := codeJ_len _ _ _
                simp only [TF.row] at hrow
                obtain ⟨b, cap, hv, _, hblt⟩ := hrow.form (by omega)
                have hi : (codeJ q t.f j)[j]? = some (t.f.code[j]'hjlt) := by rw [codeJ_at]; exact List.getElem?_eq_getElem hjlt
                have hi2 : t.f.code[j]? = some (t.f.code[j]'hjlt) := List.getElem?_eq_getElem hjlt
                generalize t.f.code[j]'hjlt = i at hi hi2
                obtain ⟨ci0, ci1⟩ := CS_at hi
                have hb0 := (hrow.lt b (by rw [hv]; rfl)).1
                rw [hv] at hrow
                have r0 := (hrow.cellAt (j * 2) (by omega)).trans ci0
                have r1 := (hrow.cellAt (j * 2 + 1) (by omega)).trans ci1
                have z0 := hrow.frozenAt (j * 2)
                have z1 := hrow.frozenAt (j * 2 + 1)
                have hA : t.A = some ⟨b, 0, none⟩ := by unfold TF.val at hv; injection hv
                have hbb : wb.heap.size ≠ b := by
                  intro e
                  subst e
                  exact own_blk_ne hrow hbx (by decide) rfl
                have hadd : (⟨b, 0, none⟩ : Addr).add (j * 2) = ⟨b, j * 2, none⟩ := by unfold Addr.add; split <;> simp [*]
                have hfi := QL.out t.f (List.mem_of_getElem? HFF.out) i (List.mem_of_getElem? hi2)
                obtain ⟨ad2, had2⟩ : ∃ a, a = (⟨b, 0, none⟩ : Addr) := ⟨_, rfl⟩
                rw [← had2] at hA hadd
                rw [hA] at x1
                have b0 : wd.cell? (ad2.add (j * 2)) = some (.int .i64 i.op) := by rw [hadd]; exact r0
                have b1 : wd.cell? ⟨(ad2.add (j * 2)).block, (ad2.add (j * 2)).off + 1, none⟩ = some (.int .i64 i.a) := by rw [hadd]; exact r1
                have y0 : wd.frozen? (ad2.add (j * 2)) = false := by rw [hadd]; exact z0
                have y1 : wd.frozen? ⟨(ad2.add (j * 2)).block, (ad2.add (j * 2)).off + 1, none⟩ = false := by rw [hadd]; exact z1
                have hbk : (ad2.add (j * 2)).block = b := by rw [hadd]
                have HBK := Lib.hid hbk; have HADD := Lib.hid hadd; have HAD := Lib.hid had2; have HAA := Lib.hid hA; have HI2 := Lib.hid hi2
                have hbw : b < wd.heap.size := hblt
                have HNE : Hid (ad2.add (j * 2) ≠ ⟨(ad2.add (j * 2)).block, (ad2.add (j * 2)).off + 1, none⟩) := by
                  show _ ≠ _
                  rw [hadd]
                  intro e
                  injection e with _ e2
                  have e3 : j * 2 = j * 2 + 1 := e2
                  omega
                have K2 : ∀ (W : World) (u v : Value) (x : Addr), x.block ≠ b → ((W.setCell (ad2.add (j * 2)) u).setCell ⟨(ad2.add (j * 2)).block, (ad2.add (j * 2)).off + 1, none⟩ v).cell? x = W.cell? x := by
                  intro W u v x hx
                  rw [hadd]
                  exact set2_other W b (j * 2) (j * 2 + 1) u v hx
                have hob : w.heap.size + 1 + 1 ≠ b := by omega
                have hflo : 0 ≤ t.f.locals ∧ t.f.locals ≤ 8 := by have := QB.out.2.2 t.f (List.mem_of_getElem? HFF.out); omega
                have hfle : t.f.code.length ≤ 64 := by have := QB.out.2.2 t.f (List.mem_of_getElem? HFF.out); omega
                clear g' htk' hfs' hbx hrow hlen hv hi hi2 ci0 ci1 r0 r1 z0 z1 hA hadd had2 hbk
                go_wp2_with fail
                refine wp_region_noPanic ?_
                refine wp_region_held_drew (S := (fun w' => w'.cell? ⟨wb.heap.size, 0, none⟩ = some (.int .i64 t.f.locals) ∧ w'.cell? ⟨wb.heap.size, 1, none⟩ = some (.slice (some ad2) t.f.code.length t.c) ∧ w'.cell? ⟨w.heap.size + 1 + 1, 0, none⟩ = some (.slice fA fs2.length fc) ∧ w'.cell? ⟨w.heap.size + 1 + 1, 1, none⟩ = some (.int .i64 mu) ∧ w'.cell? ⟨w.heap.size + 1 + 1, 2, none⟩ = some (.slice cA cs.length cc) ∧ w'.cell? ⟨w.heap.size + 1 + 1, 3, none⟩ = some (.slice sA ss.length sc) ∧ w'.cell? ⟨w.heap.size + 1 + 1, 4, none⟩ = some (.slice hA hs.length hc) ∧ w'.cell? ⟨w.heap.size + 1 + 1, 5, none⟩ = some (.slice xA ls.length xc) ∧ w'.cell? ⟨w.heap.size + 1 + 1, 6, none⟩ = some (.int .i64 (1 + around p.threads 8)))) (by kernel_rfl) ?hS (fun hHeld => ?hR)
                case hS => (try dsimp only); go_keep
                refine wpAnyH_take (i := 0) (v := ?v0) rfl (by kernel_rfl) (by kernel_rfl) (by kernel_rfl) (fun _ _ _ h => h) (Or.inl ⟨by rfl, ?hy0⟩) (by assumption) ?rest0
                case hy0 => (intro w hSw; (try dsimp only at hSw); go_simp; try (with_reducible rfl))
                try simp only [Act.put, List.setIfInBounds_toArray, List.set_cons_zero, List.set_cons_succ]
                refine wpAnyH_take (i := 1) (v := ?v1) rfl (by kernel_rfl) (by kernel_rfl) (by kernel_rfl) (fun _ _ _ h => h) (Or.inl ⟨by rfl, ?hy1⟩) (by assumption) ?rest1
                case hy1 => (intro w hSw; (try dsimp only at hSw); go_simp; try (with_reducible rfl))
                try simp only [Act.put, List.setIfInBounds_toArray, List.set_cons_zero, List.set_cons_succ]
                refine wpAnyH_take (i := 2) (v := ?v2) rfl (by kernel_rfl) (by kernel_rfl) (by kernel_rfl) (fun _ _ _ h => h) (Or.inl ⟨by rfl, ?hy2⟩) (by assumption) ?rest2
                case hy2 => (intro w hSw; (try dsimp only at hSw); go_simp; try (with_reducible rfl))
                try simp only [Act.put, List.setIfInBounds_toArray, List.set_cons_zero, List.set_cons_succ]
                refine wpAnyH_take (i := 3) (v := ?v3) rfl (by kernel_rfl) (by kernel_rfl) (by kernel_rfl) (fun _ _ _ h => h) (Or.inl ⟨by rfl, ?hy3⟩) (by assumption) ?rest3
                case hy3 => (intro w hSw; (try dsimp only at hSw); go_simp; try (with_reducible rfl))
                try simp only [Act.put, List.setIfInBounds_toArray, List.set_cons_zero, List.set_cons_succ]
                refine wpAnyH_take (i := 4) (v := ?v4) rfl (by kernel_rfl) (by kernel_rfl) (by kernel_rfl) (fun _ _ _ h => h) (Or.inl ⟨by rfl, ?hy4⟩) (by assumption) ?rest4
                case hy4 => (intro w hSw; (try dsimp only at hSw); go_simp; try (with_reducible rfl))
                try simp only [Act.put, List.setIfInBounds_toArray, List.set_cons_zero, List.set_cons_succ]
                refine wpAnyH_take (i := 5) (v := ?v5) rfl (by kernel_rfl) (by kernel_rfl) (by kernel_rfl) (fun _ _ _ h => h) (Or.inl ⟨by rfl, ?hy5⟩) (by assumption) ?rest5
                case hy5 => (intro w hSw; (try dsimp only at hSw); go_simp; try (with_reducible rfl))
                try simp only [Act.put, List.setIfInBounds_toArray, List.set_cons_zero, List.set_cons_succ]
                refine wpAnyH_take (i := 6) (v := ?v6) rfl (by kernel_rfl) (by kernel_rfl) (by kernel_rfl) (fun _ _ _ h => h) (Or.inl ⟨by rfl, ?hy6⟩) (by assumption) ?rest6
                case hy6 => (intro w hSw; (try dsimp only at hSw); go_simp; try (with_reducible rfl))
                try simp only [Act.put, List.setIfInBounds_toArray, List.set_cons_zero, List.set_cons_succ]
                refine wpAnyH_take (i := 7) (v := ?v7) rfl (by kernel_rfl) (by kernel_rfl) (by kernel_rfl) (fun _ _ _ h => h) (Or.inl ⟨by rfl, ?hy7⟩) (by assumption) ?rest7
                case hy7 => (intro w hSw; (try dsimp only at hSw); go_simp; try (with_reducible rfl))
                try simp only [Act.put, List.setIfInBounds_toArray, List.set_cons_zero, List.set_cons_succ]
                refine wpAnyH_take (i := 8) (v := ?v8) rfl (by kernel_rfl) (by kernel_rfl) (by kernel_rfl) (fun _ _ _ h => h) (Or.inl ⟨by rfl, ?hy8⟩) (by assumption) ?rest8
                case hy8 => (intro w hSw; (try dsimp only at hSw); go_simp; try (with_reducible rfl))
                try simp only [Act.put, List.setIfInBounds_toArray, List.set_cons_zero, List.set_cons_succ]
                refine wpAnyH_ready (rs := [9]) (by kernel_rfl) (by simp) ?_
                refine AllReadyH.cons rfl (fun K hK => ?_) AllReadyH.nil
                go_simp
                refine hK.out _ _ ?_ (fun hHeld => ?_)
                · (try dsimp only); go_keep
                clear hK K
                try simp only [Act.put, List.setIfInBounds_toArray, List.set_cons_zero, List.set_cons_succ]
                refine wpAnyH_ready (rs := [10]) (by kernel_rfl) (by simp) ?_
                refine AllReadyH.cons rfl (fun K hK => ?_) AllReadyH.nil
                go_simp
                refine (instrOf_at ⟨fA, fc, cA, cc, sA, sc, hA, hc, xA, xc⟩ q t.f i (some ad2) t.c wd.drew fs2.length cs.length ss.length hs.length ls.length t.f.code.length mu (1 + around p.threads 8) t.f.locals HF2L.out (by rw [Q3.out]) (by rw [Q4.out]) (by rw [Q5.out]) (by rw [Q6.out, List.length_map]) Q2.out.symm Q7.out.symm rfl rfl QH.out hflo hfle hfi.1 hfi.2).mono ?_
                rintro e wi ⟨rfl, hbi⟩
                have hbi' : Below wd.heap.size wd wi := ((Below.refl _ _).drew).trans hbi
                have q0 := (hbi'.cell (p := ⟨wb.heap.size, 0, none⟩) hbl).trans x0
                have q1 := (hbi'.cell (p := ⟨wb.heap.size, 1, none⟩) hbl).trans x1
                have q2 := (hbi'.cell (p := ⟨w.heap.size + 1 + 1, 0, none⟩) (by show w.heap.size + 1 + 1 < _; omega)).trans o0
                have q3 := (hbi'.cell (p := ⟨w.heap.size + 1 + 1, 1, none⟩) (by show w.heap.size + 1 + 1 < _; omega)).trans o1
                have q4 := (hbi'.cell (p := ⟨w.heap.size + 1 + 1, 2, none⟩) (by show w.heap.size + 1 + 1 < _; omega)).trans o2
                have q5 := (hbi'.cell (p := ⟨w.heap.size + 1 + 1, 3, none⟩) (by show w.heap.size + 1 + 1 < _; omega)).trans o3
                have q6 := (hbi'.cell (p := ⟨w.heap.size + 1 + 1, 4, none⟩) (by show w.heap.size + 1 + 1 < _; omega)).trans o4
                have q7 := (hbi'.cell (p := ⟨w.heap.size + 1 + 1, 5, none⟩) (by show w.heap.size + 1 + 1 < _; omega)).trans o5
                have q8 := (hbi'.cell (p := ⟨w.heap.size + 1 + 1, 6, none⟩) (by show w.heap.size + 1 + 1 < _; omega)).trans o6
                have b0' := (hbi'.cell (p := ad2.add (j * 2)) (by rw [HBK.out]; exact hbw)).trans b0
                have b1' := (hbi'.cell (p := ⟨(ad2.add (j * 2)).block, (ad2.add (j * 2)).off + 1, none⟩) (by show (ad2.add (j * 2)).block < _; rw [HBK.out]; exact hbw)).trans b1
                have y0' := (hbi'.frozen (p := ad2.add (j * 2)) (by rw [HBK.out]; exact hbw)).trans y0
                have y1' := (hbi'.frozen (p := ⟨(ad2.add (j * 2)).block, (ad2.add (j * 2)).off + 1, none⟩) (by show (ad2.add (j * 2)).block < _; rw [HBK.out]; exact hbw)).trans y1
                have s1 : (wi.setCell (ad2.add (j * 2)) (.int .i64 (instrOf q t.f i).op)).cell? ⟨(ad2.add (j * 2)).block, (ad2.add (j * 2)).off + 1, none⟩ = some (.int .i64 i.a) := (World.cell?_setCell_other _ _ _ _ HNE.out).trans b1'
                go_wp2_with fail
                refine hK.out _ _ ?_ (fun hHeld => ?_)
                · (try dsimp only); first | go_keep | exact ⟨q0, q1, q2, q3, q4, q5, q6, q7, q8⟩ | exact ⟨(K2 _ _ _ _ hbb).trans q0, (K2 _ _ _ _ hbb).trans q1, (K2 _ _ _ _ hob).trans q2, (K2 _ _ _ _ hob).trans q3, (K2 _ _ _ _ hob).trans q4, (K2 _ _ _ _ hob).trans q5, (K2 _ _ _ _ hob).trans q6, (K2 _ _ _ _ hob).trans q7, (K2 _ _ _ _ hob).trans q8⟩
                clear hK K
                try simp only [Act.put, List.setIfInBounds_toArray, List.set_cons_zero, List.set_cons_succ]
                refine wpAnyH_take (i := 11) (v := ?v11) rfl (by kernel_rfl) (by kernel_rfl) (by kernel_rfl) (fun _ _ _ h => h) (Or.inl ⟨by rfl, ?hy11⟩) (by assumption) ?rest11
                case hy11 => (intro w hSw; (try dsimp only at hSw); go_simp; try (with_reducible rfl))
                try simp only [Act.put, List.setIfInBounds_toArray, List.set_cons_zero, List.set_cons_succ]
                refine wpAnyH_ready (rs := [12]) (by kernel_rfl) (by simp) ?_
                refine AllReadyH.cons rfl (fun K hK => ?_) AllReadyH.nil
                go_simp
                refine hK.out _ _ ?_ (fun hHeld => ?_)
                · (try dsimp only); first | go_keep | exact ⟨q0, q1, q2, q3, q4, q5, q6, q7, q8⟩ | exact ⟨(K2 _ _ _ _ hbb).trans q0, (K2 _ _ _ _ hbb).trans q1, (K2 _ _ _ _ hob).trans q2, (K2 _ _ _ _ hob).trans q3, (K2 _ _ _ _ hob).trans q4, (K2 _ _ _ _ hob).trans q5, (K2 _ _ _ _ hob).trans q6, (K2 _ _ _ _ hob).trans q7, (K2 _ _ _ _ hob).trans q8⟩
                clear hK K
                refine wpAnyH_done (by kernel_rfl) ?_ _
                refine NoPanic.normal ?_
                all_goals
                  go_wp2_with fail
                  refine ⟨⟨j + 1, by omega, by go_num, fs'.set k ⟨⟨t.f.locals, (codeJ q t.f j).set j (instrOf q t.f i)⟩, t.A, t.c⟩, ?_, ?_, ?_, ?_⟩, by simp [intOf]; omega⟩
                  · rw [HADD.out]
                    have h2 := (GD.out.below hbi').setI (k := j) HT3.out (HAA.out.trans (congrArg some HAD.out)) (by rw [codeJ_len]; exact hjlt) (instrOf q t.f i)
                    exact h2
                  · rw [List.getElem?_set_self (List.getElem?_eq_some_iff.1 HT3.out).1, codeJ_snoc _ _ _ _ HI2.out]
                  · rw [List.map_set, HF3.out, List.set_set, codeJ_snoc _ _ _ _ HI2.out]
                  · exact ((HBX.out.below hbi' hbl).far (by rw [HBK.out]; exact hbb) _).far (by show wb.heap.size ≠ (ad2.add (j * 2)).block; rw [HBK.out]; exact hbb) _
              · have hall := codeJ_all q t.f j (by omega)
                rw [hall] at hfs'
                have hds := doneF_snoc q k t.f HFF.out
                have HDS : Hid (fs'.map TF.f = doneF q (k + 1)) := by
                  show _ = _
                  rw [hfs', hds]
                  rfl
                clear g' htk' hfs' hbx hall hds
                go_wp2_with fail
                refine ⟨⟨k + 1, by omega, by go_num, fs', GD.out, HDS.out⟩, by simp [intOf]; omega⟩
          · have rc := g.rb.cell
            have r0 := (rc 0).trans rfl
            have r1 := (rc 1).trans rfl
            have r2 := (rc 2).trans rfl
            have r3 := (rc 3).trans rfl
            have r4 := (rc 4).trans rfl
            have r5 := (rc 5).trans rfl
            have r6 := (rc 6).trans rfl
            have y0 := g.rb.frozen 0
            have y1 := g.rb.frozen 1
            have y2 := g.rb.frozen 2
            have y3 := g.rb.frozen 3
            have y4 := g.rb.frozen 4
            have y5 := g.rb.frozen 5
            have y6 := g.rb.frozen 6
            have hk : ¬ k < fs2.length := by omega
            have HFL := Lib.hid hfl
            clear g hfs hl2 rc hfl
            go_wp2_with fail
            refine bodyPost_ret (v := .agg #[.slice fA fs2.length fc, .int .i64 mu, .slice cA cs.length cc, .slice sA ss.length sc, .slice hA hs.length hc, .slice xA ls.length xc, .int .i64 (1 + around p.threads 8)]) (by simp [results, Try.results7, go_sem, r0, r1, r2, r3, r4, r5, r6]) rfl ?_
            obtain ⟨qm1, qm2, qm3, qm4, qm5, qm6⟩ := QM.out
            have hfr := ((((((((Fr.refl (fun i => i = w.heap.size + 1) wb).setCell (p := ⟨w.heap.size + 1, 0, none⟩) (.inl rfl) (.slice fA fs2.length fc)).setCell (p := ⟨w.heap.size + 1, 1, none⟩) (.inl rfl) (.int .i64 mu)).setCell (p := ⟨w.heap.size + 1, 2, none⟩) (.inl rfl) (.slice cA cs.length cc)).setCell (p := ⟨w.heap.size + 1, 3, none⟩) (.inl rfl) (.slice sA ss.length sc)).setCell (p := ⟨w.heap.size + 1, 4, none⟩) (.inl rfl) (.slice hA hs.length hc)).setCell (p := ⟨w.heap.size + 1, 5, none⟩) (.inl rfl) (.slice xA ls.length xc)).setCell (p := ⟨w.heap.size + 1, 6, none⟩) (.inl rfl) (.int .i64 (1 + around p.threads 8)))
            refine ⟨_, _, _, _, _, fs, ls, by rw [qm1, qm6], ?_, ?_, by rw [qm5], ?_⟩
            · rw [qm2, qm3, qm4]
              exact (GG.out.op.fr hfr (fun i hi e => by omega)).mono (by omega)
            · rw [HFS.out, QD.out, doneF_all _ _ (by omega), doneF_all _ _ (Nat.le_refl _)]
            · exact GG.out.bel.trans (hfr.below (by omega) (fun i hi => by omega))
end Go.Proofs.Ytmjbfobjndiecaa
