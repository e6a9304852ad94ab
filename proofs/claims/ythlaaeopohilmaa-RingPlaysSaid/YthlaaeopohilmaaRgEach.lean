/-
  Whether all things are told: the statements' own question, of a ring that has just these.
-/
import Derived.Test.YthlaaeopohilmaaRgIt
import Derived.Laws.EntriesVeiled
set_option linter.unusedVariables false
set_option linter.unusedSimpArgs false
namespace Go.Proofs.Ythlaaeopohilmaa
open Go.RowKit Go.Shelf Plain
attribute [local go_sem] Oper.semAt_some

theorem blk_own {W W' : World} {row : Option Nat} {g : Nat} {t : TypeId} {cs : Array Value} (h : Blk W g t cs) (hg : W.grownBy W' row) (hr : ∀ r, row = some r → ∃ o : Obj, W.heap[r]? = some o ∧ o.isCells = false) : Blk W' g t cs :=
  h.grown hg (fun e => by
    obtain ⟨o, ho, hc⟩ := hr g e.symm
    unfold Blk at h
    rw [h] at ho
    cases ho
    simp [Obj.isCells] at hc)
/-- What has come is the first of l, each with how many stand ahead. -/
def GoodL (l : List Int) (pre : List (Nat × Int)) : Prop := ∀ (j : Nat) (p : Nat × Int), pre[j]? = some p → p.1 = j ∧ l[j]? = some p.2
theorem GoodL.nil (l : List Int) : GoodL l [] := fun j p h => by simp at h
theorem GoodL.snoc {l : List Int} {pre : List (Nat × Int)} {v : Int} (h : GoodL l pre) (hv : l[pre.length]? = some v) : GoodL l (pre ++ [(pre.length, v)]) := by
  intro j p hp
  rcases Nat.lt_or_ge j pre.length with hj | hj
  · rw [List.getElem?_append_left hj] at hp
    exact h j p hp
  · rw [List.getElem?_append_right hj] at hp
    rcases Nat.eq_zero_or_pos (j - pre.length) with h0 | h0
    · rw [h0] at hp
      obtain rfl : j = pre.length := by omega
      simp at hp
      subst hp
      exact ⟨rfl, hv⟩
    · rw [List.getElem?_eq_none (by simp; omega)] at hp
      cases hp
theorem goodL_upto (l : List Int) {k : Nat} (hk : k ≤ l.length) : GoodL l (uptoZ l k) := by
  intro j p hp
  have hj : j < k := by
    have := (List.getElem?_eq_some_iff.1 hp).1
    rwa [uptoZ_length] at this
  rw [uptoZ_at l hj] at hp
  cases hp
  exact ⟨rfl, by simp [show j < l.length by omega]⟩
/-- Where the loop of 'all' stands. -/
structure AllI (l : List Int) (m : Int) (w : World) (bn : Nat) (A : Option Addr) (c : Nat) (pre : List (Nat × Int)) (W : World) : Prop where
  b4 : Blk W w.heap.size 22 #[.slice A l.length c]
  b5 : Blk W (w.heap.size + 1) 3 #[.int .i64 m]
  b6 : Blk W (w.heap.size + 1 + 1) 4 #[.bool false]
  bn : Blk W bn 3 #[.int .i64 (pre.length : Int)]
  good : GoodL l pre

set_option maxRecDepth 100000 in
set_option maxHeartbeats 4000000 in
theorem all_yes (g s room first : Nat) (l : List Int) (m : Int) (w : World) (h : RgI w g s room first l) (BB : Nat) (A : Option Addr) (c : Nat) (hr : Reads w BB 1 A l.length (l.map EnI)) (hBB : BB ≤ w.heap.size) :
    Calls Try.prog 13 #[.pointer (some ⟨g, 0, none⟩), .slice A l.length c, .int .i64 m] w fun e w' => e = .returned (.bool true) ∧ Below w.heap.size w w' := by
  have hnil := fun (W : World) (caps : Array Value) => (by kernel_rfl : (binOp .eql 67 (.func (.func 40) #[] caps) .nilFunc).run Try.prog W = Result.ok (.bool false) W)
  have hl1 := h.len
  have hl2 := h.hi
  refine (callsIn_wide (n := 3)).1 ?_
  refine callsIn_of_wp_marks Try.func13 rfl trivial ?_ rfl
  simp only [Try.ntmps13, List.size_toArray, List.length_cons, List.length_nil, Nat.reduceAdd, Nat.reduceSub, Array.replicate_succ, Array.replicate_zero, List.push_toArray, List.append_toArray, List.nil_append, List.cons_append]
  have H := Lib.hid h; have HR := Lib.hid hr
  clear h hr
  gi_wp2_with fail
  refine ⟨trivial, (callsIn_wide.2 (allOf_any g s room first l _ (((H.out.alloc _).alloc _).alloc _))).mono ?_⟩
  rintro e w1 ⟨b, bx, rfl, hbx, hb, e1, e2, hbel⟩
  simp at e1 e2
  have hz1 := hbel.size
  simp at hz1
  have d4 := ((Blk.new w 22 #[.slice A l.length c]).alloc (.cells #[.int .i64 m] 3)).alloc (.cells #[.bool false] 4)
  have d5 := (Blk.new (w.alloc (.cells #[.slice A l.length c] 22)) 3 #[.int .i64 m]).alloc (.cells #[.bool false] 4)
  have d6 := Blk.new ((w.alloc (.cells #[.slice A l.length c] 22)).alloc (.cells #[.int .i64 m] 3)) 4 #[.bool false]
  simp only [World.size_alloc] at d5 d6
  have b4 := (d4.below hbel (by simp; omega)).alloc (.cells #[.int .i64 0] 3)
  have b5 := (d5.below hbel (by simp)).alloc (.cells #[.int .i64 0] 3)
  have b6 := (d6.below hbel (by simp)).alloc (.cells #[.int .i64 0] 3)
  have bn := Blk.new w1 3 #[.int .i64 0]
  have hB0 : Below w.heap.size w (w1.alloc (.cells #[.int .i64 0] 3)) := ((((Below.refl w.heap.size w).alloc (Nat.le_refl _) _).alloc (by simp) _).alloc (by simp; omega) _).trans ((hbel.mono (by simp; omega)).alloc (by omega) _)
  have hlb := hb.lt
  have hB := hb.alloc (.cells #[.int .i64 0] 3)
  have hBX := hbx.alloc (.cells #[.int .i64 0] 3)
  have HB := Lib.hid hB; have HBX := Lib.hid hBX; have HB0 := Lib.hid hB0
  have hI0 : AllI l m w w1.heap.size A c [] (w1.alloc (.cells #[.int .i64 0] 3)) := ⟨b4, b5, b6, bn, GoodL.nil l⟩
  have HI0 := Lib.hid hI0
  clear d4 d5 d6 b4 b5 b6 bn hB hBX hB0 hI0 hb hbx hbel
  gi_wp2_with fail
  clear hnil
  refine wpIn_rangeFunc_ownG rfl (by omega) (gf := 40) (lb := #[.pointer (some ⟨bx, 0, none⟩)]) rfl trivial (enters_of Try.func40 (by kernel_rfl) rfl)
    (tells_stops Fence.wide 2 trivial rfl (by omega) bx b l (by omega) _ (fun i => i = b) rfl HBX.out HB.out) KpD.trans (fun W lq o o' hle hl _ _ i hi => by subst hi; exact World.putObj_heap_other (by simp at hle; omega)) (Below.refl _ _) (fun _ => rfl)
    (fun pre W => AllI l m w w1.heap.size A c pre W ∧ Below w.heap.size w W)
    (fun cc pre W => ((cc = .exit 0 ∧ AllI l m w w1.heap.size A c pre W ∧ (pre.length : Int) = m) ∨ (cc = .ret ∧ ¬ GoodL l pre)) ∧ Below w.heap.size w W)
    (OwnFrom.and (Own.from (fun s A' B' row hs hg hr => ⟨blk_own hs.b4 hg hr, blk_own hs.b5 hg hr, blk_own hs.b6 hg hr, blk_own hs.bn hg hr, hs.good⟩) _) (ownFrom_below (Nat.le_refl _) (by simp; omega)))
    (fun cc => OwnFrom.and (Own.from (fun s A' B' row hs hg hr => by
      rcases hs with ⟨h1, h2, h3⟩ | h
      · exact .inl ⟨h1, ⟨blk_own h2.b4 hg hr, blk_own h2.b5 hg hr, blk_own h2.b6 hg hr, blk_own h2.bn hg hr, h2.good⟩, h3⟩
      · exact .inr h) _) (ownFrom_below (Nat.le_refl _) (by simp; omega)))
    ⟨HI0.out, HB0.out⟩
    (fun x => { tmps := #[.pointer (some ⟨g, 0, none⟩), .slice A l.length c, .int .i64 m, undef, .pointer (some ⟨w.heap.size, 0, none⟩), .pointer (some ⟨w.heap.size + 1, 0, none⟩), .pointer (some ⟨w.heap.size + 1 + 1, 0, none⟩), .func (.func 40) #[] #[.pointer (some ⟨bx, 0, none⟩)], .pointer (some ⟨w1.heap.size, 0, none⟩), .int .i64 (x.1 : Int), .int .i64 x.2, .pointer (some ⟨g, 0, none⟩), .func (.func 40) #[] #[.pointer (some ⟨bx, 0, none⟩)], .func (.func 40) #[] #[.pointer (some ⟨bx, 0, none⟩)], .bool false, .func (.func 40) #[] #[.pointer (some ⟨bx, 0, none⟩)], .int .i64 (x.1 : Int), .int .i64 x.2, undef, undef, undef, undef, undef, undef, undef, undef, undef, undef, undef, undef, undef, undef, undef, undef, undef, undef, undef, undef, undef, undef, undef, undef, undef, undef, undef, undef, undef], defers := [] }) ?assign ?body ?done ?stop
  case assign =>
    intro l x W K hK
    gi_wp2
    exact hK
  case body =>
    rintro lq pre ⟨i, v⟩ W ⟨hI, hB⟩ hlen
    obtain ⟨ad, y, rfl, hab, hy, hcy0⟩ := HR.out.num hlen
    have hcy := (hB.cell (p := ad.add pre.length) (by rw [block_of_add]; omega)).trans hcy0
    have l0 : W.cell? ⟨w.heap.size, 0, none⟩ = some (.slice (some ad) l.length c) := (hI.b4.cell 0).trans rfl
    have m0 : W.cell? ⟨w.heap.size + 1, 0, none⟩ = some (.int .i64 m) := (hI.b5.cell 0).trans rfl
    have r0 : W.cell? ⟨w.heap.size + 1 + 1, 0, none⟩ = some (.bool false) := (hI.b6.cell 0).trans rfl
    have n0 : W.cell? ⟨w1.heap.size, 0, none⟩ = some (.int .i64 (pre.length : Int)) := (hI.bn.cell 0).trans rfl
    have rz : W.frozen? ⟨w.heap.size + 1 + 1, 0, none⟩ = false := hI.b6.frozen 0
    have nz : W.frozen? ⟨w1.heap.size, 0, none⟩ = false := hI.bn.frozen 0
    have hge : decide (l.length ≤ pre.length) = false := by simp; omega
    have hw : IntKind.i64.wrap ((pre.length : Int) + 1) = (pre.length : Int) + 1 := IntWalk.i64_in _ (by omega)
    have ne1 : ¬ w.heap.size = w1.heap.size := by omega
    have ne2 : ¬ w.heap.size + 1 = w1.heap.size := by omega
    have ne3 : ¬ w.heap.size + 1 + 1 = w1.heap.size := by omega
    have HI := Lib.hid hI; have HBW := Lib.hid hB; have HY := Lib.hid hy
    clear hI hB hy hcy0 HI0 HB0 HBX HB H
    have hkeep : ∀ x u, KeepsFrom (w1.alloc (.cells #[.int .i64 0] 3)).heap.size W (W.setCell x u) := fun x u => (KeepsOthers.setCell _ _ _).from _
    have HK := Lib.hid hkeep
    clear hkeep
    by_cases hi : i = pre.length
    · subst hi
      by_cases hv : v = y
      · subst hv
        have hI' : AllI l m w w1.heap.size (some ad) c (pre ++ [(pre.length, v)]) (W.setCell ⟨w1.heap.size, 0, none⟩ (.int .i64 ((pre.length : Int) + 1))) := by
          refine ⟨HI.out.b4.far (by simpa using ne1) _, HI.out.b5.far (by simpa using ne2) _, HI.out.b6.far (by simpa using ne3) _, ?_, HI.out.good.snoc HY.out⟩
          have := HI.out.bn.set_ 0 (.int .i64 ((pre.length : Int) + 1))
          simpa using this
        have hB' := HBW.out.setCell (p := ⟨w1.heap.size, 0, none⟩) (by show w.heap.size ≤ w1.heap.size; omega) (.int .i64 ((pre.length : Int) + 1))
        have hK' : KpD (fun i => i = b) W (W.setCell ⟨w1.heap.size, 0, none⟩ (.int .i64 ((pre.length : Int) + 1))) := fun i hi => by subst hi; exact Below.heap_setCell _ _ _ _ (by show i ≠ w1.heap.size; omega)
        have HI' := Lib.hid hI'; have HB' := Lib.hid hB'; have HK' := Lib.hid hK'
        clear hI' hB' hK'
        by_cases hm : (pre.length : Int) + 1 = m
        · have hmb : ((pre.length : Int) + 1 == m) = true := by simpa using hm
          have HM := Lib.hid hm
          clear hm
          gi_wp2
          exact ⟨HK.out _ _, .inl ⟨rfl, HI'.out, by have := HM.out; simp; omega⟩, HB'.out⟩
        · have hmb : ((pre.length : Int) + 1 == m) = false := by simpa using hm
          clear hm
          gi_wp2
          exact ⟨HK.out _ _, HK'.out, HI'.out, HB'.out⟩
      · have hvb : (v != y) = true := by simpa using hv
        have hng : ¬ GoodL l (pre ++ [(pre.length, v)]) := fun hg => by
          have := (hg pre.length (pre.length, v) (by simp)).2
          have hyy := HY.out
          rw [hyy] at this
          exact hv (by injection this with e; exact e.symm)
        have HNG := Lib.hid hng
        have hB' := HBW.out.setCell (p := ⟨w.heap.size + 1 + 1, 0, none⟩) (by show w.heap.size ≤ w.heap.size + 1 + 1; omega) (.bool false)
        have HB' := Lib.hid hB'
        clear hng hv hB'
        gi_wp2
        exact ⟨HK.out _ _, .inr ⟨rfl, HNG.out⟩, HB'.out⟩
    · have hib : ((i : Int) != (pre.length : Int)) = true := by simp; omega
      have hng : ¬ GoodL l (pre ++ [(i, v)]) := fun hg => hi (hg pre.length (i, v) (by simp)).1
      have HNG := Lib.hid hng
      have hB' := HBW.out.setCell (p := ⟨w.heap.size + 1 + 1, 0, none⟩) (by show w.heap.size ≤ w.heap.size + 1 + 1; omega) (.bool false)
      have HB' := Lib.hid hB'
      clear hng hi hB'
      gi_wp2
      exact ⟨HK.out _ _, .inr ⟨rfl, HNG.out⟩, HB'.out⟩
  case done =>
    rintro D ys W hD rfl ⟨hI, hB⟩ hK
    have n0 : W.cell? ⟨w1.heap.size, 0, none⟩ = some (.int .i64 (l.length : Int)) := by
      have := (hI.bn.cell 0)
      rw [uptoZ_length] at this
      exact this.trans rfl
    have l0 : W.cell? ⟨w.heap.size, 0, none⟩ = some (.slice A l.length c) := (hI.b4.cell 0).trans rfl
    have m0 : W.cell? ⟨w.heap.size + 1, 0, none⟩ = some (.int .i64 m) := (hI.b5.cell 0).trans rfl
    have r0 : W.cell? ⟨w.heap.size + 1 + 1, 0, none⟩ = some (.bool false) := (hI.b6.cell 0).trans rfl
    have rz : W.frozen? ⟨w.heap.size + 1 + 1, 0, none⟩ = false := hI.b6.frozen 0
    gi_wp2
    have hK' := (KeepsOthers.setCell W ⟨w.heap.size + 1 + 1, 0, none⟩ (.bool true)).same D _ hK rfl
    refine ⟨by simp, .inl ⟨_, _, rfl, run_takeDeferred hK', ?_⟩⟩
    have hc5 := cell_kept (World.cell?_setCell_same' W ⟨w.heap.size + 1 + 1, 0, none⟩ (.bool true) (by rw [r0]; rfl)) (grownBy_putObj' _ D (.deferred none)) (fun r e => by cases e; exact ⟨_, hK', rfl⟩)
    refine ⟨.bool true, ?_, rfl, (hB.setCell (p := ⟨w.heap.size + 1 + 1, 0, none⟩) (by show w.heap.size ≤ w.heap.size + 1 + 1; omega) _).trans (belowK_b (w := w) (Nat.le_refl _) _ D _ _ (by simp at hD; omega) hK' rfl rfl)⟩
    simp [results, Try.f13, go_sem, hc5]
  case stop =>
    rintro D cc pre W hD ⟨k, hk, rfl⟩ ⟨h, hB⟩ hK
    rcases h with ⟨rfl, hI, hm⟩ | ⟨_, hng⟩
    · rw [uptoZ_length] at hm
      have hmb : ((k : Int) == m) = true := by simpa using hm
      have n0 : W.cell? ⟨w1.heap.size, 0, none⟩ = some (.int .i64 (k : Int)) := by
        have := (hI.bn.cell 0)
        rw [uptoZ_length] at this
        exact this.trans rfl
      have l0 : W.cell? ⟨w.heap.size, 0, none⟩ = some (.slice A l.length c) := (hI.b4.cell 0).trans rfl
      have m0 : W.cell? ⟨w.heap.size + 1, 0, none⟩ = some (.int .i64 m) := (hI.b5.cell 0).trans rfl
      have r0 : W.cell? ⟨w.heap.size + 1 + 1, 0, none⟩ = some (.bool false) := (hI.b6.cell 0).trans rfl
      have rz : W.frozen? ⟨w.heap.size + 1 + 1, 0, none⟩ = false := hI.b6.frozen 0
      clear hm
      by_cases hkl : (k : Int) = (l.length : Int)
      · have hkb : ((k : Int) == (l.length : Int)) = true := by simpa using hkl
        clear hkl
        gi_wp2
        have hK' := (KeepsOthers.setCell W ⟨w.heap.size + 1 + 1, 0, none⟩ (.bool true)).same D _ hK rfl
        refine ⟨by simp, .inl ⟨_, _, rfl, run_takeDeferred hK', ?_⟩⟩
        have hc5 := cell_kept (World.cell?_setCell_same' W ⟨w.heap.size + 1 + 1, 0, none⟩ (.bool true) (by rw [r0]; rfl)) (grownBy_putObj' _ D (.deferred none)) (fun r e => by cases e; exact ⟨_, hK', rfl⟩)
        refine ⟨.bool true, ?_, rfl, (hB.setCell (p := ⟨w.heap.size + 1 + 1, 0, none⟩) (by show w.heap.size ≤ w.heap.size + 1 + 1; omega) _).trans (belowK_b (w := w) (Nat.le_refl _) _ D _ _ (by simp at hD; omega) hK' rfl rfl)⟩
        simp [results, Try.f13, go_sem, hc5]

      · have hkb : ((k : Int) == (l.length : Int)) = false := by simpa using hkl
        clear hkl
        gi_wp2
        have hK' := (KeepsOthers.setCell W ⟨w.heap.size + 1 + 1, 0, none⟩ (.bool true)).same D _ hK rfl
        refine ⟨by simp, .inl ⟨_, _, rfl, run_takeDeferred hK', ?_⟩⟩
        have hc5 := cell_kept (World.cell?_setCell_same' W ⟨w.heap.size + 1 + 1, 0, none⟩ (.bool true) (by rw [r0]; rfl)) (grownBy_putObj' _ D (.deferred none)) (fun r e => by cases e; exact ⟨_, hK', rfl⟩)
        refine ⟨.bool true, ?_, rfl, (hB.setCell (p := ⟨w.heap.size + 1 + 1, 0, none⟩) (by show w.heap.size ≤ w.heap.size + 1 + 1; omega) _).trans (belowK_b (w := w) (Nat.le_refl _) _ D _ _ (by simp at hD; omega) hK' rfl rfl)⟩
        simp [results, Try.f13, go_sem, hc5]

    · exact absurd (goodL_upto l hk) hng
theorem all_yes_n (g s room first : Nat) (l : List Int) (n : Nat) (hn : l.length = n) (m : Int) (w : World) (h : RgI w g s room first l) (BB : Nat) (A : Option Addr) (c : Nat) (hr : Reads w BB 1 A n (l.map EnI)) (hBB : BB ≤ w.heap.size) :
    Calls Try.prog 13 #[.pointer (some ⟨g, 0, none⟩), .slice A n c, .int .i64 m] w fun e w' => e = .returned (.bool true) ∧ Below w.heap.size w w' := by
  subst hn
  exact all_yes g s room first l m w h BB A c hr hBB
end Go.Proofs.Ythlaaeopohilmaa
