
/-
  Cut, where what is answered of a thing hangs on those that were asked of ahead of it.
-/
import Derived.Test.YtipflplilkecjaaRgCut
set_option linter.unusedVariables false
set_option linter.unusedSimpArgs false
namespace Go.Proofs.Ytipflplilkecjaa
open Go.RowKit Go.Shelf Plain
attribute [local go_sem] Oper.semAt_some

namespace Plain
/-- Those that came, those that stay, those that go. -/
def partZ (p : List Int → Int → Bool) (l : List Int) : List Int × List Int × List Int :=
  l.foldl (fun a x => if p a.1 x then (a.1 ++ [x], a.2.1, a.2.2 ++ [x]) else (a.1 ++ [x], a.2.1 ++ [x], a.2.2)) ([], [], [])
def stayZ (p : List Int → Int → Bool) (l : List Int) : List Int := (partZ p l).2.1
def goZ (p : List Int → Int → Bool) (l : List Int) : List Int := (partZ p l).2.2
theorem rev_ind {α : Type} {P : List α → Prop} (h0 : P []) (h1 : ∀ l x, P l → P (l ++ [x])) (l : List α) : P l := by
  have : ∀ r : List α, P r.reverse := fun r => by
    induction r with
    | nil => exact h0
    | cons a r ih => rw [List.reverse_cons]; exact h1 _ _ ih
  have := this l.reverse
  rwa [List.reverse_reverse] at this
theorem partZ_one (p : List Int → Int → Bool) (l : List Int) : (partZ p l).1 = l := by
  refine rev_ind (P := fun l => (partZ p l).1 = l) rfl (fun l x ih => ?_) l
  unfold partZ at ih ⊢
  rw [List.foldl_append]
  simp only [List.foldl_cons, List.foldl_nil]
  split <;> simp [ih]
theorem partZ_snoc (p : List Int → Int → Bool) (l : List Int) (x : Int) : partZ p (l ++ [x]) = if p l x then (l ++ [x], stayZ p l, goZ p l ++ [x]) else (l ++ [x], stayZ p l ++ [x], goZ p l) := by
  have h1 := partZ_one p l
  unfold stayZ goZ
  unfold partZ at h1 ⊢
  rw [List.foldl_append]
  simp only [List.foldl_cons, List.foldl_nil]
  rw [h1]
theorem stayZ_le (p : List Int → Int → Bool) (l : List Int) : (stayZ p l).length ≤ l.length := by
  refine rev_ind (P := fun l => (stayZ p l).length ≤ l.length) (Nat.le_refl _) (fun l x ih => ?_) l
  rw [stayZ, partZ_snoc]
  split <;> simp <;> omega
theorem goZ_le (p : List Int → Int → Bool) (l : List Int) : (goZ p l).length ≤ l.length := by
  refine rev_ind (P := fun l => (goZ p l).length ≤ l.length) (Nat.le_refl _) (fun l x ih => ?_) l
  rw [goZ, partZ_snoc]
  split <;> simp <;> omega
end Plain
def stayQ (p : List Int → Int → Bool) (pre : List (Nat × Int)) : List Int := stayZ p (pre.map (·.2))
def goQ (p : List Int → Int → Bool) (pre : List (Nat × Int)) : List Int := goZ p (pre.map (·.2))
/-- Where Cut stands. -/
structure CutQ (w : World) (g s room first : Nat) (l : List Int) (S : Nat → Prop) (J : List Int → World → Prop) (p : List Int → Int → Bool) (f : FuncId) (caps : Array Value) (B : Nat) (pre : List (Nat × Int)) (W : World) : Prop where
  b3 : Blk W w.heap.size 71 #[.func (.func f) #[] caps]
  b5 : ∃ v, Blk W (w.heap.size + 1) 26 #[v] ∧ OwnI W B v (stayQ p pre)
  b6 : Blk W (w.heap.size + 1 + 1) 3 #[.int .i64 ((goQ p pre).length : Int)]
  j : J (pre.map (·.2)) W
  ring : RgI W g s room first l
  fr : Fr S w W
  sz : B ≤ W.heap.size
theorem goQ_yes {p : List Int → Int → Bool} {pre : List (Nat × Int)} {i : Nat} {v : Int} (h : p (pre.map (·.2)) v = true) : goQ p (pre ++ [(i, v)]) = goQ p pre ++ [v] ∧ stayQ p (pre ++ [(i, v)]) = stayQ p pre := by
  simp [goQ, stayQ, goZ, stayZ, partZ_snoc, h]
theorem goQ_no {p : List Int → Int → Bool} {pre : List (Nat × Int)} {i : Nat} {v : Int} (h : p (pre.map (·.2)) v = false) : goQ p (pre ++ [(i, v)]) = goQ p pre ∧ stayQ p (pre ++ [(i, v)]) = stayQ p pre ++ [v] := by
  simp [goQ, stayQ, goZ, stayZ, partZ_snoc, h]
section
variable {w W w3 : World} {g s room first B : Nat} {l : List Int} {S T : Nat → Prop} {J : List Int → World → Prop} {p : List Int → Int → Bool} {f : FuncId} {caps : Array Value} {pre : List (Nat × Int)} {i : Nat} {v : Int}
theorem CutQ.gone (h : CutQ w g s room first l S J p f caps B pre W) (hJ : ∀ pre W W', J pre W → (∀ i, T i → W'.heap[i]? = W.heap[i]?) → J pre W') (hS : ∀ i, S i → i < w.heap.size ∧ i ≠ g ∧ i ≠ s) (hT : ∀ i, T i → i < w.heap.size ∧ i ≠ g ∧ i ≠ s)
    (hf : Fr S W w3) (hj : J (pre.map (·.2) ++ [v]) w3) (hp : p (pre.map (·.2)) v = true) (hgs : g < w.heap.size ∧ s < w.heap.size) (hB : w.heap.size + 2 < B) :
    CutQ w g s room first l S J p f caps B (pre ++ [(i, v)]) (w3.setCell ⟨w.heap.size + 1 + 1, 0, none⟩ (.int .i64 (((goQ p pre).length : Int) + 1))) ∧ KeepsFrom B W (w3.setCell ⟨w.heap.size + 1 + 1, 0, none⟩ (.int .i64 (((goQ p pre).length : Int) + 1))) ∧ Fr (fun i => S i ∨ i = w.heap.size + 1 + 1) W (w3.setCell ⟨w.heap.size + 1 + 1, 0, none⟩ (.int .i64 (((goQ p pre).length : Int) + 1))) := by
  have hSg : ¬ S g := fun h => (hS g h).2.1 rfl
  have hSs : ¬ S s := fun h => (hS s h).2.2 rfl
  have hnew : ∀ k, w.heap.size ≤ k → ¬ S k := fun k hk h => by have := (hS k h).1; omega
  obtain ⟨vs, hb5, hown⟩ := h.b5
  obtain ⟨e1, e2⟩ := goQ_yes (pre := pre) (i := i) hp
  have hset := (Fr.refl (fun i => i = w.heap.size + 1 + 1) w3).setCell (p := ⟨w.heap.size + 1 + 1, 0, none⟩) (.inl rfl) (.int .i64 (((goQ p pre).length : Int) + 1))
  have hown3 : OwnI w3 B vs (stayQ p pre) := hf.own hown (fun k hk h2 => by have := (hown.lt k hk).1; have := (hS k h2).1; omega)
  refine ⟨⟨hset.blk (hf.blk h.b3 (hnew _ (Nat.le_refl _))) (by omega), ⟨vs, hset.blk (hf.blk hb5 (hnew _ (by omega))) (by omega), ?_⟩, ?_, ?_, (h.ring.fr hf hSg hSs).fr hset (by omega) (by omega), (h.fr.trans hf (fun _ _ h => h)).trans hset (fun k hk e => by omega), ?_⟩, ?_, ?_⟩
  · rw [e2]
    exact hset.own hown3 (fun k hk => by have := (hown3.lt k hk).1; omega)
  · have := (hf.blk h.b6 (hnew _ (by omega))).set_ 0 (.int .i64 (((goQ p pre).length : Int) + 1))
    rw [e1]
    simpa using this
  · rw [List.map_append]
    exact hJ _ _ _ hj (fun k hk => hset.block k (by have := (hT k hk).1; have := h.fr.size; have := hf.size; omega) (by have := (hT k hk).1; omega))
  · have := h.sz; have := hf.size; have := hset.size; omega
  · exact (keepsFrom_of_fr hf (fun k hk => by have := (hS k hk).1; omega)).trans ((KeepsOthers.setCell _ _ _).from _)
  · exact (hf.mono (fun _ _ h => .inl h)).trans hset (fun _ _ h => .inr h)
theorem CutQ.stays (h : CutQ w g s room first l S J p f caps B pre W) (hJ : ∀ pre W W', J pre W → (∀ i, T i → W'.heap[i]? = W.heap[i]?) → J pre W') (hS : ∀ i, S i → i < w.heap.size ∧ i ≠ g ∧ i ≠ s) (hT : ∀ i, T i → i < w.heap.size ∧ i ≠ g ∧ i ≠ s)
    (hf : Fr S W w3) (hj : J (pre.map (·.2) ++ [v]) w3) (hp : p (pre.map (·.2)) v = false) (hgs : g < w.heap.size ∧ s < w.heap.size) (hB : w.heap.size + 2 < B) {vs v' : Value} {o : Obj} {w5 : World}
    (hown : OwnI W B vs (stayQ p pre)) (hown5 : w5.ownsRow B 3 1 v' ((stayQ p pre).length + 1) ((stayQ p pre).map EnI ++ [.int .i64 v])) (hg5 : (w3.alloc o).grownBy w5 vs.ownBlock) (hb5 : Blk W (w.heap.size + 1) 26 #[vs]) :
    CutQ w g s room first l S J p f caps B (pre ++ [(i, v)]) (w5.setCell ⟨w.heap.size + 1, 0, none⟩ v') ∧ KeepsFrom B W (w5.setCell ⟨w.heap.size + 1, 0, none⟩ v') ∧ Fr (fun i => S i ∨ i = w.heap.size + 1 ∨ vs.ownBlock = some i) W (w5.setCell ⟨w.heap.size + 1, 0, none⟩ v') := by
  have hSg : ¬ S g := fun h => (hS g h).2.1 rfl
  have hSs : ¬ S s := fun h => (hS s h).2.2 rfl
  have hnew : ∀ k, w.heap.size ≤ k → ¬ S k := fun k hk h => by have := (hS k h).1; omega
  obtain ⟨e1, e2⟩ := goQ_no (pre := pre) (i := i) hp
  have hvs : ∀ k, vs.ownBlock = some k → B ≤ k := fun k hk => (hown.lt k hk).1
  have hgr : Fr (fun i => vs.ownBlock = some i) w3 w5 := ((Fr.refl _ w3).alloc _).trans (Fr.of_grown hg5) (fun _ _ h => h)
  have hset := (Fr.refl (fun i => i = w.heap.size + 1) w5).setCell (p := ⟨w.heap.size + 1, 0, none⟩) (.inl rfl) v'
  have hall := ((hf.mono (S := fun i => S i ∨ i = w.heap.size + 1 ∨ vs.ownBlock = some i) (fun _ _ h => .inl h)).trans hgr (fun _ _ h => .inr (.inr h))).trans hset (fun _ _ h => .inr (.inl h))
  have hb5' : Blk w5 (w.heap.size + 1) 26 #[vs] := hgr.blk (hf.blk hb5 (hnew _ (by omega))) (fun e => by have := hvs _ e; omega)
  have hown6 : OwnI w5 B v' (stayQ p pre ++ [v]) := OwnI.snoc hown5
  have hout : ∀ k, k < B → k ≠ w.heap.size + 1 → ¬ S k → ¬ (S k ∨ k = w.heap.size + 1 ∨ vs.ownBlock = some k) := fun k hk h1 h2 h3 => by
    rcases h3 with h3 | h3 | h3
    · exact h2 h3
    · exact h1 h3
    · have := hvs k h3; omega
  refine ⟨⟨hall.blk h.b3 (hout _ (by omega) (by omega) (hnew _ (Nat.le_refl _))), ⟨v', by simpa using hb5'.set_ 0 v', ?_⟩, ?_, ?_, h.ring.fr hall (hout g (by omega) (by omega) hSg) (hout s (by omega) (by omega) hSs), h.fr.trans hall (fun k hk e => ?_), ?_⟩, ?_, hall⟩
  · rw [e2]
    exact hset.own hown6 (fun k hk => by have := (hown6.lt k hk).1; omega)
  · rw [e1]
    exact hall.blk h.b6 (hout _ (by omega) (by omega) (hnew _ (by omega)))
  · rw [List.map_append]
    refine hJ _ _ _ hj (fun k hk => ?_)
    have h1 := (hT k hk).1
    have h2 := h.fr.size
    have h3 := hf.size
    have h4 := hgr.size
    rw [hset.block k (by omega) (by omega), hgr.block k (by omega) (fun e => by have := hvs k e; omega)]
  · rcases e with e | e | e
    · exact e
    · omega
    · have := hvs k e; omega
  · have := h.sz; have := hall.size; omega
  · refine ⟨hall.size, fun k o2 hk hk2 hnc => ?_⟩
    refine (hall.block k (Array.getElem?_eq_some_iff.1 hk2).1 (fun e => ?_)).trans hk2
    rcases e with e | e | e
    · have := (hS k e).1; omega
    · omega
    · rcases hown.2 with ⟨rfl, _⟩ | ⟨g', cap, cur, rfl, _, hh, _⟩
      · simp [Value.ownBlock] at e
      · have : g' = k := by simpa [Value.ownBlock] using e
        subst this
        rw [hh] at hk2
        cases hk2
        simp [Obj.isCells] at hnc
end

set_option maxRecDepth 100000 in
set_option maxHeartbeats 4000000 in
theorem cut_any_q (g s room first : Nat) (l : List Int) (w : World) (h : RgI w g s room first l) (p : List Int → Int → Bool) (f : FuncId) (caps : Array Value) (S T : Nat → Prop) (J : List Int → World → Prop)
    (hent : ∀ args W, (callFunc f args).run Try.prog W = .ok (.enter f args) W)
    (hJ : ∀ pre W W', J pre W → (∀ i, T i → W'.heap[i]? = W.heap[i]?) → J pre W')
    (hS : ∀ i, S i → i < w.heap.size ∧ i ≠ g ∧ i ≠ s) (hT : ∀ i, T i → i < w.heap.size ∧ i ≠ g ∧ i ≠ s)
    (hcl : ∀ pre x W, J pre W → pre.length < l.length → w.heap.size ≤ W.heap.size → Calls Try.prog f (#[.int .i64 x] ++ caps) W fun e W' => e = .returned (.bool (p pre x)) ∧ J (pre ++ [x]) W' ∧ Fr S W W')
    (h0 : J [] w) :
    Calls Try.prog 64 #[.pointer (some ⟨g, 0, none⟩), .func (.func f) #[] caps] w fun e w' => e = .returned (.int .i64 ((goZ p l).length : Int)) ∧ RgI w' g s room 0 (stayZ p l) ∧ J l w' ∧ Fr (fun i => (i = g ∨ i = s) ∨ S i) w w' := by
  have hnil := fun (W : World) => (by kernel_rfl : (binOp .eql 71 (.func (.func f) #[] caps) .nilFunc).run Try.prog W = Result.ok (.bool false) W)
  have hl1 := h.len
  have hl2 := h.hi
  have hgs := h.lt
  obtain ⟨i0, hi0, hz0, hz1', hz2⟩ := info_parts info_int
  refine (callsIn_wide (n := 3)).1 ?_
  refine callsIn_of_wp_marks Try.func64 rfl trivial ?_ rfl
  simp only [Try.ntmps64, List.size_toArray, List.length_cons, List.length_nil, Nat.reduceAdd, Nat.reduceSub, Array.replicate_succ, Array.replicate_zero, List.push_toArray, List.append_toArray, List.nil_append, List.cons_append]
  have H := Lib.hid h; have HENT := Lib.hid hent; have HJ := Lib.hid hJ; have HS := Lib.hid hS; have HT := Lib.hid hT; have HCL := Lib.hid hcl; have H0 := Lib.hid h0
  clear h hent hJ hS hT hcl h0
  gi_wp2_with fail
  refine ⟨trivial, (callsIn_wide.2 (allOf_any g s room first l _ (((H.out.alloc _).alloc _).alloc _))).mono ?_⟩
  rintro e w1 ⟨b, bx, rfl, hbx, hb, e1, e2, hbel⟩
  simp at e1 e2
  have hz1 := hbel.size
  simp at hz1
  have d3 := ((Blk.new w 71 #[.func (.func f) #[] caps]).alloc (.cells #[.slice none 0 0] 26)).alloc (.cells #[.int .i64 0] 3)
  have d5 := (Blk.new (w.alloc (.cells #[.func (.func f) #[] caps] 71)) 26 #[.slice none 0 0]).alloc (.cells #[.int .i64 0] 3)
  have d6 := Blk.new ((w.alloc (.cells #[.func (.func f) #[] caps] 71)).alloc (.cells #[.slice none 0 0] 26)) 3 #[.int .i64 0]
  simp only [World.size_alloc] at d5 d6
  have hbel0 : Below w.heap.size w w1 := ((((Below.refl w.heap.size w).alloc (Nat.le_refl _) _).alloc (by simp) _).alloc (by simp; omega) _).trans (hbel.mono (by simp; omega))
  have hfr0 : Fr S w w1 := (Fr.of_below hbel0).mono (fun i hi h => by omega)
  have hI0 : CutQ w g s room first l S J p f caps w1.heap.size [] w1 := ⟨d3.below hbel (by simp; omega), ⟨_, d5.below hbel (by simp), OwnI.nil _ _⟩, d6.below hbel (by simp), HJ.out [] w w1 H0.out (fun i hi => hbel0.block i (HT.out i hi).1), H.out.fr hfr0 (fun h => (HS.out g h).2.1 rfl) (fun h => (HS.out s h).2.2 rfl), hfr0, Nat.le_refl _⟩
  have HI0 := Lib.hid hI0; have HB := Lib.hid hb; have HBX := Lib.hid hbx; have HBEL0 := Lib.hid hbel0
  have hlb := hb.lt
  clear d3 d5 d6 hI0 hfr0 hbel0 hbel hb hbx
  gi_wp2_with fail
  clear hnil
  refine wpIn_rangeFunc_ownG rfl (by omega) (gf := 58) (lb := #[.pointer (some ⟨bx, 0, none⟩)]) rfl trivial (enters_of Try.func58 (by kernel_rfl) rfl)
    (tells_stops Fence.wide 2 trivial rfl (by omega) bx b l (by omega) _ (fun i => i = b) rfl HBX.out HB.out) KpD.trans (fun W lq o o' hle hl _ _ i hi => by subst hi; exact World.putObj_heap_other (by omega)) (Below.refl _ _) (fun _ => rfl)
    (fun pre W => CutQ w g s room first l S J p f caps w1.heap.size pre W)
    (fun _ _ _ => False)
    (fun pre A' B' row hs hg hr => by
      have hnc : ∀ i cs t, A'.heap[i]? = some (.cells cs t (0, 0)) → ¬ row = some i := fun i cs t h e => by
        obtain ⟨_, o, ho, hc⟩ := hr i e
        rw [h] at ho
        cases ho
        simp [Obj.isCells] at hc
      have hgf := Fr.of_grown hg
      have hfr' : Fr S w B' := hs.fr.trans hgf (fun i hi e => by have := (hr i e).1; omega)
      obtain ⟨v, hb5, hown⟩ := hs.b5
      obtain ⟨q1, ⟨zs, q2, q3, q4⟩, q5, q6, q7, q8⟩ := hs.ring
      refine ⟨hgf.blk hs.b3 (hnc _ _ _ hs.b3), ⟨v, hgf.blk hb5 (hnc _ _ _ hb5), hgf.own hown (fun i hi => ?_)⟩, hgf.blk hs.b6 (hnc _ _ _ hs.b6), HJ.out _ _ _ hs.j (fun i hi => hg.block i ?_ (fun e => ?_)), hs.ring.fr hgf (hnc _ _ _ q1) (hnc _ _ _ q3), hfr', by have := hs.sz; have := hg.size; omega⟩
      · rcases hown.2 with ⟨rfl, _⟩ | ⟨g', cap, cur, rfl, _, hh, _⟩
        · simp [Value.ownBlock] at hi
        · have : g' = i := by simpa [Value.ownBlock] using hi
          subst this
          exact hnc _ _ _ hh
      · have := (HT.out i hi).1
        have := hs.fr.size
        omega
      · have := (hr i e.symm).1
        have := (HT.out i hi).1
        omega)
    (fun _ _ _ _ _ hs _ _ => hs)
    HI0.out
    (fun x => { tmps := #[.pointer (some ⟨g, 0, none⟩), .func (.func f) #[] caps, undef, .pointer (some ⟨w.heap.size, 0, none⟩), .int .i64 0, .pointer (some ⟨w.heap.size + 1, 0, none⟩), .pointer (some ⟨w.heap.size + 1 + 1, 0, none⟩), undef, .int .i64 x.2, .func (.func f) #[] caps, .bool false, .pointer (some ⟨g, 0, none⟩), .func (.func 58) #[] #[.pointer (some ⟨bx, 0, none⟩)], .int .i64 (x.1 : Int), .int .i64 x.2, undef, undef, undef, undef, undef, undef, undef, undef, undef, undef, undef, undef, undef], defers := [] }) ?assign ?body ?done ?stop
  case assign =>
    intro lq x W K hK
    gi_wp2
    exact hK
  case body =>
    rintro lq pre ⟨i, v⟩ W hI hlen
    obtain ⟨vs, hb5, hown⟩ := hI.b5
    have x3 : W.cell? ⟨w.heap.size, 0, none⟩ = some (.func (.func f) #[] caps) := (hI.b3.cell 0).trans rfl
    have hent := HENT.out
    have hcl := HCL.out (pre.map (·.2)) v W hI.j (by simpa using hlen) hI.fr.size
    have HI := Lib.hid hI; have HB5 := Lib.hid hb5; have HOWN := Lib.hid hown; have HC := Lib.hid hcl
    clear hI hb5 hown hcl HI0 HB HBX HBEL0 H
    obtain ⟨bv, hbv⟩ : ∃ bv, bv = p (pre.map (·.2)) v := ⟨_, rfl⟩
    have hcl := HC.out
    rw [← hbv] at hcl
    have HC2 := Lib.hid hcl; have HBV := Lib.hid hbv
    have hzw := HI.out.fr.size
    have hSW : ∀ i, S i → i < W.heap.size := fun i hi => by have := (HS.out i hi).1; omega
    have hbW : b < W.heap.size := by have := HI.out.sz; omega
    clear hcl hbv HC
    cases bv with
    | true =>
      gi_wp2_with fail
      refine ⟨trivial, (CallsIn.inRound lq (callsIn_wide.2 HC2.out)).mono ?_⟩
      rintro e w3 ⟨rfl, hj, hf⟩
      have h6 := hf.blk HI.out.b6 (fun h => by have := (HS.out _ h).1; omega)
      have x6 : w3.cell? ⟨w.heap.size + 1 + 1, 0, none⟩ = some (.int .i64 ((goQ p pre).length : Int)) := (h6.cell 0).trans rfl
      have x6z : w3.frozen? ⟨w.heap.size + 1 + 1, 0, none⟩ = false := h6.frozen 0
      have hgl : (goQ p pre).length ≤ pre.length := by have := goZ_le p (pre.map (·.2)); simpa [goQ] using this
      have hwr : IntKind.i64.wrap (((goQ p pre).length : Int) + 1) = ((goQ p pre).length : Int) + 1 := IntWalk.i64_in _ (by omega)
      have HJ3 := Lib.hid hj; have HF := Lib.hid hf; have H6 := Lib.hid h6
      clear hj hf h6
      have hfin := HI.out.gone (i := i) HJ.out HS.out HT.out HF.out HJ3.out HBV.out.symm hgs (by omega)
      have HFIN := Lib.hid hfin
      clear hfin
      gi_wp2_with fail
      exact ⟨HFIN.out.2.1, fun k hk => by subst hk; exact HFIN.out.2.2.block _ hbW (fun h => by rcases h with h | h; (have := (HS.out _ h).1; omega); omega), HFIN.out.1⟩
    | false =>
      gi_wp2_with fail
      refine ⟨trivial, (CallsIn.inRound lq (callsIn_wide.2 HC2.out)).mono ?_⟩
      rintro e w3 ⟨rfl, hj, hf⟩
      have h5 := hf.blk HB5.out (fun h => by have := (HS.out _ h).1; omega)
      have x5 : w3.cell? ⟨w.heap.size + 1, 0, none⟩ = some vs := (h5.cell 0).trans rfl
      have x5z : w3.frozen? ⟨w.heap.size + 1, 0, none⟩ = false := h5.frozen 0
      have hst : (stayQ p pre).length ≤ pre.length := by have := stayZ_le p (pre.map (·.2)); simpa [stayQ] using this
      have hown3 : OwnI w3 w1.heap.size vs (stayQ p pre) := hf.own HOWN.out (fun k hk h2 => by have := (HOWN.out.lt k hk).1; have := (HS.out k h2).1; omega)
      have hz3 := hf.size
      have hszw := HI.out.sz
      have HJ3 := Lib.hid hj; have HF := Lib.hid hf; have H5 := Lib.hid h5; have HO3 := Lib.hid hown3
      clear hj hf h5 hown3
      gi_wp2_with (gi_at_builtin; refine wpListIn_append_own _ rfl _ _ 26 rfl w1.heap.size 3 i0 _ 1 8 Try.underlying26 hi0 hz0 hz1' hz2 rfl (by decide) _ _ _ rfl (HO3.out.alloc _) ⟨w3.heap.size, 0, none⟩ 1 1 [.int .i64 v] rfl rfl (cell_one_new _ _ _) (by simp [Value.oneCell']) (by unfold maxLen; omega) (by omega) (by simp; omega) ?_; intro v' w5 hown5 hg5 _; obtain ⟨g', cap', rfl⟩ := ownsRow_succ hown5; have h5' := (((Fr.refl (fun i => vs.ownBlock = some i) w3).alloc (.cells #[.int .i64 v] 3)).trans (Fr.of_grown hg5) (fun _ _ h => h)).blk H5.out (fun e => by have := (HO3.out.lt _ e).1; omega); have x5' : w5.cell? ⟨w.heap.size + 1, 0, none⟩ = some vs := (h5'.cell 0).trans rfl; have x5z' : w5.frozen? ⟨w.heap.size + 1, 0, none⟩ = false := h5'.frozen 0)
      have hfin := HI.out.stays (i := i) HJ.out HS.out HT.out HF.out HJ3.out HBV.out.symm hgs (by omega) HOWN.out hown5 hg5 HB5.out
      exact ⟨hfin.2.1, fun k hk => by subst hk; exact hfin.2.2.block _ hbW (fun h => by rcases h with h | h | h; (have := (HS.out _ h).1; omega); omega; (have := (HOWN.out.lt _ h).1; omega)), hfin.1⟩
  case done =>
    rintro D ys W hD rfl hI hK
    obtain ⟨vs, hb5, hown⟩ := hI.b5
    obtain ⟨A, c, rfl, hcs, hrs⟩ := hown.slice
    have hpre : (uptoZ l l.length).map (·.2) = l := by
      unfold uptoZ
      rw [List.map_map]
      apply List.ext_getElem
      · simp
      · intro i h1 h2
        simp [h2]
    have hst : stayQ p (uptoZ l l.length) = stayZ p l := by unfold stayQ; rw [hpre]
    have hgo : goQ p (uptoZ l l.length) = goZ p l := by unfold goQ; rw [hpre]
    have hj := hI.j
    have hb6 := hI.b6
    rw [hpre] at hj
    rw [hgo] at hb6
    rw [hst] at hb5 hrs hown hcs
    have x5 : W.cell? ⟨w.heap.size + 1, 0, none⟩ = some (.slice A (stayZ p l).length c) := (hb5.cell 0).trans rfl
    have hlf : (stayZ p l).length ≤ room := Nat.le_trans (stayZ_le p l) hl1
    obtain ⟨q1, ⟨zs, q2, q3, q4⟩, q5, q6, q7, q8⟩ := hI.ring
    have hszW := hI.sz
    have hlD := (Array.getElem?_eq_some_iff.1 hK).1
    have hfill := fill_anyI g s room first l.length (zs.map EnI) (stayZ p l) W q1 q3 (by simpa using q2) q7 q8 ⟨zs, rfl⟩ _ A _ c rfl (fun w' hf => reads_own_fr hown hf (fun i hi => by omega))
    rw [List.take_of_length_le hlf] at hfill
    have HFL := Lib.hid hfill; have HJ1 := Lib.hid hj; have HB6 := Lib.hid hb6; have HFR := Lib.hid hI.fr; have HK := Lib.hid hK
    have hl6 := hb6.lt
    obtain ⟨stay, hes⟩ : ∃ x, x = stayZ p l := ⟨_, rfl⟩
    obtain ⟨gone, heg⟩ : ∃ x, x = goZ p l := ⟨_, rfl⟩
    rw [← hes] at HFL x5 hlf
    rw [← heg] at HB6
    have HES := Lib.hid hes; have HEG := Lib.hid heg
    clear hes heg
    clear hfill hj hb6 hI hK q1 q3 q4 q5 q6 q7 q8 hb5 hown hrs hst hgo hpre HI0 HB HBX HBEL0 H HCL H0 HENT
    gi_wp2_with fail
    refine ⟨trivial, (callsIn_wide.2 HFL.out).mono ?_⟩
    rintro e w3 ⟨rfl, hq, hf⟩
    have h6 := hf.blk HB6.out (by omega)
    have x6 : w3.cell? ⟨w.heap.size + 1 + 1, 0, none⟩ = some (.int .i64 (gone.length : Int)) := (h6.cell 0).trans rfl
    have hK3 : w3.heap[D]? = some (.deferred (some [])) := (hf.block D hlD (by omega)).trans HK.out
    have HQ := Lib.hid hq; have HF := Lib.hid hf; have HK3 := Lib.hid hK3
    clear hq hf h6 hK3
    gi_wp2
    refine ⟨by simp, .inl ⟨_, _, rfl, run_takeDeferred HK3.out, ?_⟩⟩
    have hp := Fr.of_grown (grownBy_putObj' w3 D (.deferred none))
    have hz3 := HF.out.size
    rw [← HES.out, ← HEG.out]
    refine ⟨_, results_tmp rfl _ _ _, rfl, HQ.out.fr hp (fun h => by injection h with h; omega) (fun h => by injection h with h; omega), ?_, ?_⟩
    · refine HJ.out _ _ _ HJ1.out (fun i hi => ?_)
      have h1 := HT.out i hi
      rw [hp.block i (by omega) (fun h => by injection h with h; omega), HF.out.block i (by omega) (by omega)]
    · exact ((HFR.out.mono (S := fun i => (i = g ∨ i = s) ∨ S i) (fun _ _ h => .inr h)).trans HF.out (fun _ _ h => .inl h)).trans hp (fun i hi h => by injection h with h; omega)
  case stop =>
    rintro D cc pre W _ _ h _
    exact h.elim
end Go.Proofs.Ytipflplilkecjaa
