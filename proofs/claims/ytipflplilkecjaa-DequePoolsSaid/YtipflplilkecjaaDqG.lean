
/-
  A queue's Global: all its rings' things, in their row.
-/
import Derived.Test.YtipflplilkecjaaDqY
import Derived.Test.YtipflplilkecjaaRgCut
import Derived.Test.YtipflplilkecjaaDqZ
set_option linter.unusedVariables false
set_option linter.unusedSimpArgs false
namespace Go.Proofs.Ytipflplilkecjaa
open Go.RowKit Go.Shelf Plain
attribute [local go_sem] Oper.semAt_some

theorem wpListIn_append_own_at {F : Fence} {n : Nat} {P : Program} (w : World) {ops : Array Oper} {rest : List Oper} {o : Oper} {a : Act} {Q : Exit → Act → World → Prop}
    (hg : o.guard = none) (s x : Operand) (t : TypeId) (hop : o.op = Op.call { callee := Callee.builtin Builtin.append, args := #[s, x], argTypes := #[t, t] })
    (base : Nat) (e : TypeId) (i : TypeInfo) (z : Value) (size bytes : Nat) (h1 : P.underlying t = some (.slice e)) (h2 : P.info? e = some i) (h3 : i.zero = some z) (h4 : i.size = size) (h5 : i.bytes = bytes) (h6 : z.cells.size = size) (h7 : 0 < size)
    (v : Value) (k : Nat) (xs : List Value) (hs : a.eval s = v) (hown : w.ownsRow base e size v k xs) (ad : Addr) (m c : Nat) (news : List Value) (hx : a.eval x = .slice (some ad) m c) (hn : news.length = m * size)
    (hc : ∀ j u, news[j]? = some u → w.cell? (ad.add j) = some u) (h1c : ∀ u ∈ news, u.oneCell' = true) (b1 : k + m ≤ maxLen) (b2 : (k + m) * bytes ≤ 140737488355328) (b3 : base ≤ w.heap.size)
    (hK : ∀ v' w', w'.ownsRow base e size v' (k + m) (xs ++ news) → w.grownBy w' v.ownBlock → (v'.ownBlock = v.ownBlock ∨ v'.ownBlock = some w.heap.size) → wpListIn F n P ops Q rest (a.put o.dst v') w') :
    wpListIn F n P ops Q (o :: rest) a w := by
  refine wpListIn_plain hg fun K hK' => ?_
  obtain ⟨v', w', hrun, r1, r2, _, r3⟩ := run_append_own_at (P := P) w base t o.type e i z size bytes h1 h2 h3 h4 h5 h6 h7 v k xs hown ad m c news hn hc h1c b1 b2 b3
  unfold Oper.wpIn
  refine ⟨?_, ?_⟩
  · simp [Oper.about, hop, resolve, Target.leads, Sem.run_pure]
  · rw [Oper.semAt_plain F _ _ (by rw [hop]; intro c hc'; cases hc')]
    simp [execOp, hop, resolve, invoke, builtin, hs, hx, hrun, Result.andThen]
    exact hK' _ _ (hK v' w' r1 r2 r3)
/-- Marks of loops over functions that are over. -/
def Mks (w : World) (lo hi : Nat) : List Deferred → Prop
  | [] => True
  | d :: ds => (∃ D, d = { target := .collected D, args := #[] } ∧ lo ≤ D ∧ D < hi ∧ w.heap[D]? = some (.deferred (some [])) ∧ ∀ d' ∈ ds, d' ≠ d) ∧ Mks w lo hi ds
theorem Mks.keep {w w' : World} {lo hi hi' : Nat} : ∀ {dl : List Deferred}, Mks w lo hi dl → hi ≤ hi' → (∀ D, lo ≤ D → D < hi → w.heap[D]? = some (.deferred (some [])) → w'.heap[D]? = w.heap[D]?) → Mks w' lo hi' dl
  | [], _, _, _ => trivial
  | d :: ds, ⟨⟨D, h1, h2, h3, h4, h5⟩, h6⟩, hh, hk => ⟨⟨D, h1, h2, by omega, (hk D h2 h3 h4).trans h4, h5⟩, Mks.keep h6 hh hk⟩
theorem Mks.mem {w : World} {lo hi : Nat} : ∀ {dl : List Deferred}, Mks w lo hi dl → ∀ d ∈ dl, ∃ D, d = { target := .collected D, args := #[] } ∧ lo ≤ D ∧ D < hi
  | [], _, d, hd => by simp at hd
  | d :: ds, ⟨⟨D, h1, h2, h3, h4, h5⟩, h6⟩, d', hd => by
    rcases List.mem_cons.1 hd with rfl | hd
    · exact ⟨D, h1, h2, h3⟩
    · exact Mks.mem h6 d' hd
theorem leaves_marks {P : Program} {F : Fence} {n : Nat} {fn : Func} {tmps : Array Value} {R : Ending → World → Prop} {lo hi : Nat} : ∀ (dl : List Deferred) (w : World), Mks w lo hi dl →
    (∀ w', Fr (fun i => lo ≤ i ∧ ∃ o : Obj, w.heap[i]? = some o ∧ o.isCells = false) w w' → ∃ v, (results fn tmps).run P w' = .ok v w' ∧ R (.returned v) w') → LeavesInM F n P fn tmps R dl .returning w
  | [], w, _, h => h w (Fr.refl _ _)
  | d :: ds, w, ⟨⟨D, h1, h2, h3, h4, h5⟩, h6⟩, h => by
    refine ⟨by simp, .inl ⟨D, w.putObj D (.deferred none), by rw [h1], run_takeDeferred h4, ?_⟩⟩
    have hne : ∀ i, i ≠ D → (w.putObj D (.deferred none)).heap[i]? = w.heap[i]? := fun i hi => World.putObj_heap_other hi
    have hmk : Mks (w.putObj D (.deferred none)) lo hi ds := by
      have hds : ∀ (ds : List Deferred), (∀ d' ∈ ds, d' ≠ d) → Mks w lo hi ds → Mks (w.putObj D (.deferred none)) lo hi ds := by
        intro ds
        induction ds with
        | nil => intro _ _; trivial
        | cons e es ih =>
          rintro g1 ⟨⟨D', k1, k2, k3, k4, k5⟩, k6⟩
          refine ⟨⟨D', k1, k2, k3, ?_, k5⟩, ih (fun d' hd' => g1 d' (List.mem_cons_of_mem _ hd')) k6⟩
          rw [hne D' (fun e2 => by subst e2; exact g1 e List.mem_cons_self (k1.trans h1.symm))]
          exact k4
      exact hds ds h5 h6
    refine leaves_marks ds _ hmk (fun w' hf => h w' ?_)
    have hp : Fr (fun i => lo ≤ i ∧ ∃ o : Obj, w.heap[i]? = some o ∧ o.isCells = false) w (w.putObj D (.deferred none)) := (Fr.of_grown (grownBy_putObj' w D (.deferred none))).mono (fun i _ e => by cases e; exact ⟨h2, _, h4, rfl⟩)
    refine hp.trans hf (fun i hi e => ?_)
    obtain ⟨e1, o, e2, e3⟩ := e
    by_cases hD : i = D
    · subst hD
      exact ⟨h2, _, h4, rfl⟩
    · rw [hne i hD] at e2
      exact ⟨e1, o, e2, e3⟩
/-- Where Global stands. -/
structure GlI (w W : World) (acc : List Int) (b : Nat) (dl : List Deferred) (hi : Nat) : Prop where
  box : ∃ v, Blk W w.heap.size 26 #[v] ∧ OwnI W (w.heap.size + 1) v acc ∧ v.ownBlock ≠ some b
  bel : Below w.heap.size w W
  mks : Mks W w.heap.size hi dl
  hi : hi ≤ W.heap.size
section
variable {w W : World} {acc : List Int} {b hi : Nat} {dl : List Deferred}
/-- One more. -/
theorem GlI.more (h : GlI w W acc b dl hi) {vs v' : Value} {x : Int} {o : Obj} {w5 : World} (hbx : Blk W w.heap.size 26 #[vs]) (hown : OwnI W (w.heap.size + 1) vs acc) (hvb : vs.ownBlock ≠ some b) (hb1 : w.heap.size + 1 ≤ b) (hb2 : b < W.heap.size)
    (hown5 : w5.ownsRow (w.heap.size + 1) 3 1 v' (acc.length + 1) (acc.map EnI ++ [.int .i64 x])) (hg5 : (W.alloc o).grownBy w5 vs.ownBlock) (ha : v'.ownBlock = vs.ownBlock ∨ v'.ownBlock = some (W.alloc o).heap.size) (B : Nat) :
    GlI w (w5.setCell ⟨w.heap.size, 0, none⟩ v') (acc ++ [x]) b dl hi ∧ KeepsFrom B W (w5.setCell ⟨w.heap.size, 0, none⟩ v') ∧ KpD (fun i => i = b) W (w5.setCell ⟨w.heap.size, 0, none⟩ v') := by
  have hvs : ∀ k, vs.ownBlock = some k → w.heap.size + 1 ≤ k ∧ k < W.heap.size := fun k hk => hown.lt k hk
  have hgr : Fr (fun i => vs.ownBlock = some i) W w5 := ((Fr.refl _ W).alloc _).trans (Fr.of_grown hg5) (fun _ _ h => h)
  have hset := (Fr.refl (fun i => i = w.heap.size) w5).setCell (p := ⟨w.heap.size, 0, none⟩) (.inl rfl) v'
  have hall : Fr (fun i => i = w.heap.size ∨ vs.ownBlock = some i) W (w5.setCell ⟨w.heap.size, 0, none⟩ v') := (hgr.mono (fun _ _ h => .inr h)).trans hset (fun _ _ h => .inl h)
  have hz := hall.size
  have hown6 : OwnI w5 (w.heap.size + 1) v' (acc ++ [x]) := OwnI.snoc hown5
  have hown7 : OwnI (w5.setCell ⟨w.heap.size, 0, none⟩ v') (w.heap.size + 1) v' (acc ++ [x]) := hset.own hown6 (fun k hk => by have := (hown6.lt k hk).1; omega)
  have hnc : ∀ k (o2 : Obj), W.heap[k]? = some o2 → o2.isCells = false → (w5.setCell ⟨w.heap.size, 0, none⟩ v').heap[k]? = W.heap[k]? := fun k o2 hk2 hnc => by
    refine hall.block k (Array.getElem?_eq_some_iff.1 hk2).1 (fun e => ?_)
    rcases e with e | e
    · subst e
      unfold Blk at hbx
      rw [hbx] at hk2
      cases hk2
      simp [Obj.isCells] at hnc
    · rcases hown.2 with ⟨rfl, _⟩ | ⟨g', cap, cur, rfl, _, hh, _⟩
      · simp [Value.ownBlock] at e
      · have : g' = k := by simpa [Value.ownBlock] using e
        subst this
        rw [hh] at hk2
        cases hk2
        simp [Obj.isCells] at hnc
  refine ⟨⟨⟨v', ?_, hown7, fun e => ?_⟩, h.bel.trans (hall.below h.bel.size (fun i hi => by rcases hi with hi | hi; omega; have := (hvs i hi).1; omega)), h.mks.keep (Nat.le_refl _) (fun D _ _ hd => hnc D _ hd rfl), by have := h.hi; omega⟩, ⟨hz, fun k o2 _ hk2 hn => (hnc k o2 hk2 hn).trans hk2⟩, fun i hi => ?_⟩
  · have := (hgr.blk hbx (fun e => by have := (hvs _ e).1; omega)).set_ 0 v'
    simpa using this
  · rcases ha with ha | ha
    · rw [ha] at e
      exact hvb e
    · rw [ha] at e
      injection e with e
      simp at e
      omega
  · subst hi
    exact hall.block _ hb2 (fun e => by rcases e with e | e; omega; exact hvb e)
end

set_option maxRecDepth 100000 in
set_option maxHeartbeats 4000000 in
theorem global_q (g : Nat) (dv : Value) (D : Nat → Prop) (rs : List QRec) (w : World) (h : Qu w g dv D rs) (hD : ∀ i, D i → i < w.heap.size) (hN : (contQ rs).length ≤ 1000000) :
    Calls Try.prog 28 #[.pointer (some ⟨g, 0, none⟩)] w fun e w' => ∃ v, e = .returned v ∧ OwnI w' (w.heap.size + 1) v (contQ rs) ∧ Below w.heap.size w w' := by
  obtain ⟨i0, hi0, hz0, hz1', hz2⟩ := info_parts info_int
  have hcnt := h.cnt hN
  obtain ⟨A, c, hb, hrow⟩ := h.box
  obtain ⟨n, hn⟩ : ∃ n, n = rs.length := ⟨_, rfl⟩
  have c0 : w.cell? ⟨g, 0, none⟩ = some (.slice A n c) := by rw [hb.cell, hn]; rfl
  have hgl := hb.lt
  rw [← hn] at hcnt
  have H := Lib.hid h; have HD := Lib.hid hD; have HN := Lib.hid hN; have HLEN := Lib.hid hn; have HROW := Lib.hid hrow
  clear h hD hb hrow hn hN
  refine (callsIn_wide (n := 3)).1 ?_
  refine callsIn_of_wp_marks Try.func28 rfl trivial ?_ rfl
  simp only [Try.ntmps28, List.size_toArray, List.length_cons, List.length_nil, Nat.reduceAdd, Nat.reduceSub, Array.replicate_succ, Array.replicate_zero, List.push_toArray, List.append_toArray, List.nil_append, List.cons_append]
  gi_wp2_with fail
  have hstart : GlI w (w.alloc (.cells #[.slice none 0 0] 26)) (contQ (rs.take 0)) w.heap.size [] (w.alloc (.cells #[.slice none 0 0] 26)).heap.size :=
    ⟨⟨_, Blk.new w _ _, by simpa [contQ] using OwnI.nil _ _, by simp [Value.ownBlock]⟩, (Below.refl _ w).alloc (Nat.le_refl _) _, trivial, Nat.le_refl _⟩
  have HST := Lib.hid hstart
  clear hstart c0
  refine wpIn_loop (fun a W => ∃ (k : Nat) (u5 u7 u14 u15 u16 u17 u18 u19 u20 u21 u22 u23 u24 u25 : Value) (dl : List Deferred), a = { tmps := #[.pointer (some ⟨g, 0, none⟩), undef, .slice none 0 0, .pointer (some ⟨w.heap.size, 0, none⟩), undef, u5, undef, u7, .pointer (some ⟨g, 0, none⟩), .pointer (some ⟨g, 0, none⟩), .pointer (some ⟨g, 0, none⟩), .slice A n c, .int .i64 (n : Int), .int .i64 (k : Int), u14, u15, u16, u17, u18, u19, u20, u21, u22, u23, u24, u25, undef], defers := dl } ∧ k ≤ n ∧ Hid (GlI w W (contQ (rs.take k)) w.heap.size dl W.heap.size)) (fun a _ => n - (intOf (a.tmps.getD 13 undef)).toNat) ?_ ?_
  · exact ⟨0, _, _, _, _, _, _, _, _, _, _, _, _, _, _, [], rfl, by omega, HST⟩
  · rintro a W ⟨k, u5, u7, u14, u15, u16, u17, u18, u19, u20, u21, u22, u23, u24, u25, dl, rfl, hk, HG⟩
    clear HST
    have bel := HG.out.bel
    have hq : Qu W g dv D rs := H.out.fr (Fr.of_below bel) (fun i hi e => by have := HD.out i e; omega)
    by_cases hlt : k < n
    · have hkl : k < rs.length := by rw [← HLEN.out]; exact hlt
      have hx : rs[k]? = some rs[k] := List.getElem?_eq_getElem hkl
      generalize rs[k] = r at *
      obtain ⟨ad, rfl, hcx0, _⟩ := HROW.out.cell hx
      have hadl : ad.block < w.heap.size := by
        have := World.block_lt_of_cell? _ _ hcx0
        rwa [block_of_add] at this
      have hcx : W.cell? (ad.add k) = some (.pointer (some ⟨r.g, 0, none⟩)) := (bel.cell (p := ad.add k) (by rw [block_of_add]; exact hadl)).trans hcx0
      have hrr := hq.rings r (List.mem_of_getElem? hx)
      have hall := allOf_any r.g r.s 32 r.f r.l W hrr.1
      have hl32 := hrr.1.len
      have HALL := Lib.hid hall; have HX := Lib.hid hx
      clear hall hrr hq hx hcx0 bel hkl
      gi_wp2_with fail
      refine ⟨trivial, (callsIn_wide.2 HALL.out).mono ?_⟩
      rintro e w1 ⟨b, bx, rfl, hbx, hb, e1, e2, hbel⟩
      have hz1 := hbel.size
      have hg1 : GlI w w1 (contQ (rs.take k)) b dl w1.heap.size := by
        obtain ⟨⟨v, p1, p2, p3⟩, p4, p5, p6⟩ := HG.out
        refine ⟨⟨v, p1.below hbel p1.lt, (Fr.of_below hbel).own p2 (fun i hi => by have := (p2.lt i hi).2; omega), fun e => by have := (p2.lt b e).2; omega⟩, p4.trans (hbel.mono p4.size), p5.keep hz1 (fun D _ h2 h3 => hbel.block D h2), Nat.le_refl _⟩
      have hlb := hb.lt
      have hbw : w.heap.size + 1 ≤ b := by
        obtain ⟨⟨v, p1, _⟩, _⟩ := HG.out
        have := p1.lt
        omega
      have HG1 := Lib.hid hg1; have HBX := Lib.hid hbx; have HB := Lib.hid hb
      clear hg1 hbx hb hbel HALL
      gi_wp2_with fail
      refine wpIn_rangeFunc_ownG rfl (by omega) (gf := 58) (lb := #[.pointer (some ⟨bx, 0, none⟩)]) rfl trivial (enters_of Try.func58 (by kernel_rfl) rfl)
        (tells_stops Fence.wide 2 trivial rfl (by omega) bx b r.l (by omega) _ (fun i => i = b) rfl HBX.out HB.out) KpD.trans (fun W lq o o' hle hl _ _ i hi => by subst hi; exact World.putObj_heap_other (by omega)) (Below.refl _ _) (fun _ => rfl)
        (fun pre W => GlI w W (contQ (rs.take k) ++ pre.map (·.2)) b dl w1.heap.size)
        (fun _ _ _ => False)
        (fun pre A' B' row hs hg hr => by
          have hnc : ∀ i cs t, A'.heap[i]? = some (.cells cs t (0, 0)) → ¬ row = some i := fun i cs t h e => by
            obtain ⟨_, o, ho, hc⟩ := hr i e
            rw [h] at ho
            cases ho
            simp [Obj.isCells] at hc
          have hgf := Fr.of_grown hg
          obtain ⟨⟨v, p1, p2, p3⟩, p4, p5, p6⟩ := hs
          refine ⟨⟨v, hgf.blk p1 (hnc _ _ _ p1), hgf.own p2 (fun i hi => ?_), p3⟩, p4.trans (hgf.below p4.size (fun i hi => by have := (hr i hi).1; have := HG1.out.bel.size; omega)), p5.keep (Nat.le_refl _) (fun D _ h2 h3 => hg.block D (Array.getElem?_eq_some_iff.1 h3).1 (fun e => by have := (hr D e.symm).1; omega)), by have := hg.size; omega⟩
          rcases p2.2 with ⟨rfl, _⟩ | ⟨g', cap, cur, rfl, _, hh, _⟩
          · simp [Value.ownBlock] at hi
          · have : g' = i := by simpa [Value.ownBlock] using hi
            subst this
            exact hnc _ _ _ hh)
        (fun _ _ _ _ _ hs _ _ => hs)
        (by simpa using HG1.out)
        (fun x => { tmps := #[.pointer (some ⟨g, 0, none⟩), undef, .slice none 0 0, .pointer (some ⟨w.heap.size, 0, none⟩), undef, .pointer (some ⟨r.g, 0, none⟩), undef, .int .i64 x.2, .pointer (some ⟨g, 0, none⟩), .pointer (some ⟨g, 0, none⟩), .pointer (some ⟨g, 0, none⟩), .slice (some ad) n c, .int .i64 (n : Int), .int .i64 (k : Int), .bool true, .pointer (some (ad.add k)), .pointer (some ⟨r.g, 0, none⟩), .pointer (some ⟨r.g, 0, none⟩), .func (.func 58) #[] #[.pointer (some ⟨bx, 0, none⟩)], .int .i64 (x.1 : Int), .int .i64 x.2, u21, u22, u23, u24, u25, undef], defers := [] }) ?assign ?body ?done ?stop
      case assign =>
        intro lq x W K hK
        gi_wp2
        exact hK
      case body =>
        rintro lq pre ⟨i, v⟩ W hI hlen
        obtain ⟨vs, hb5, hown, hvb⟩ := hI.box
        have x5 : W.cell? ⟨w.heap.size, 0, none⟩ = some vs := (hb5.cell 0).trans rfl
        have x5z : W.frozen? ⟨w.heap.size, 0, none⟩ = false := hb5.frozen 0
        obtain ⟨acc, hacc⟩ : ∃ acc, acc = contQ (rs.take k) ++ pre.map (·.2) := ⟨_, rfl⟩
        have hal : acc.length ≤ 1000100 := by
          have h1 := contQ_le rs k
          have h2 := HN.out
          rw [hacc, List.length_append, List.length_map]
          omega
        rw [← hacc] at hI hown
        have hiz := hI.hi
        have HI := Lib.hid hI; have HB5 := Lib.hid hb5; have HOWN := Lib.hid hown; have HACC := Lib.hid hacc
        clear hI hb5 hown hacc HG1 HBX HB H HG
        gi_wp2_with (gi_at_builtin; refine wpListIn_append_own_at _ rfl _ _ 26 rfl (w.heap.size + 1) 3 i0 _ 1 8 Try.underlying26 hi0 hz0 hz1' hz2 rfl (by decide) _ _ _ rfl (HOWN.out.alloc _) ⟨W.heap.size, 0, none⟩ 1 1 [.int .i64 v] rfl rfl (cell_one_new _ _ _) (by simp [Value.oneCell']) (by unfold maxLen; omega) (by omega) (by simp; omega) ?_; intro v' w5 hown5 hg5 ha5; obtain ⟨g', cap', rfl⟩ := ownsRow_succ hown5; have h5' := (((Fr.refl (fun i => vs.ownBlock = some i) W).alloc (.cells #[.int .i64 v] 3)).trans (Fr.of_grown hg5) (fun _ _ h => h)).blk HB5.out (fun e => by have := (HOWN.out.lt _ e).1; omega); have x5' : w5.cell? ⟨w.heap.size, 0, none⟩ = some vs := (h5'.cell 0).trans rfl; have x5z' : w5.frozen? ⟨w.heap.size, 0, none⟩ = false := h5'.frozen 0)
        have hfin := HI.out.more HB5.out HOWN.out hvb hbw (by omega) hown5 hg5 ha5 w1.heap.size
        refine ⟨hfin.2.1, hfin.2.2, ?_⟩
        have e : contQ (rs.take k) ++ (pre ++ [(i, v)]).map (·.2) = acc ++ [v] := by rw [HACC.out]; simp
        show GlI w _ (contQ (rs.take k) ++ (pre ++ [(i, v)]).map (·.2)) b dl w1.heap.size
        rw [e]
        exact hfin.1
      case done =>
        rintro D1 ys W1 hD1 rfl hI hK
        have hpre : (uptoZ r.l r.l.length).map (·.2) = r.l := by
          unfold uptoZ
          rw [List.map_map]
          apply List.ext_getElem
          · simp
          · intro i h1 h2
            simp [h2]
        rw [hpre, ← contQ_succ HX.out] at hI
        have hfin : GlI w W1 (contQ (rs.take (k + 1))) w.heap.size ({ target := .collected D1, args := #[] } :: dl) W1.heap.size := by
          obtain ⟨⟨v, p1, p2, p3⟩, p4, p5, p6⟩ := hI
          have hDl := (Array.getElem?_eq_some_iff.1 hK).1
          have hws := HG1.out.bel.size
          exact ⟨⟨v, p1, p2, fun e => by have := (p2.lt _ e).1; omega⟩, p4, ⟨⟨D1, rfl, by omega, hDl, hK, fun d' hd' e => by
            obtain ⟨D2, q1, q2, q3⟩ := p5.mem d' hd'
            rw [q1] at e
            injection e with e
            injection e with e
            omega⟩, p5.keep p6 (fun _ _ _ _ => rfl)⟩, Nat.le_refl _⟩
        have HF := Lib.hid hfin
        have hwr : IntKind.i64.wrap ((k : Int) + 1) = ((k + 1 : Nat) : Int) := by rw [IntWalk.i64_in _ (by omega)]; omega
        clear hI hpre hfin HG1 HBX HB H HG
        gi_wp2_with fail
        refine ⟨⟨k + 1, _, _, _, _, _, _, _, _, _, _, _, _, _, _, _, rfl, by omega, HF⟩, ?_⟩
        simp [intOf]
        omega
      case stop =>
        rintro D1 cc pre W1 _ _ h _
        exact h.elim
    · have hkn : k = n := by omega
      have hct : contQ (rs.take k) = contQ rs := by rw [hkn, HLEN.out, List.take_length]
      obtain ⟨⟨v, p1, p2, p3⟩, p4, p5, p6⟩ := HG.out
      rw [hct] at p2
      have cv : W.cell? ⟨w.heap.size, 0, none⟩ = some v := (p1.cell 0).trans rfl
      have P2 := Lib.hid p2; have P4 := Lib.hid p4; have P5 := Lib.hid p5
      clear hkn hct p1 p2 p3 p4 p5 p6 hq bel HG
      gi_wp2_with fail
      refine leaves_marks dl W P5.out (fun w' hf => ⟨_, results_tmp rfl _ _ _, v, rfl, hf.own P2.out (fun i hi e => ?_), P4.out.trans (hf.below P4.out.size (fun i hi => hi.1))⟩)
      obtain ⟨_, o, e1, e2⟩ := e
      rcases P2.out.2 with ⟨rfl, _⟩ | ⟨g', cap, cur, rfl, _, hh, _⟩
      · simp [Value.ownBlock] at hi
      · have : g' = i := by simpa [Value.ownBlock] using hi
        subst this
        rw [hh] at e1
        cases e1
        simp [Obj.isCells] at e2
end Go.Proofs.Ytipflplilkecjaa
