
/-
  slices.Values, slices.Sorted of a row of numbers; whether a list is of channels.
-/
import Derived.Test.YtbgigkamlnchcaaChS
import Derived.Maps.AppendAt
set_option linter.unusedVariables false
set_option linter.unusedSimpArgs false
namespace Go.Proofs.Ytbgigkamlnchcaa
open Go.RowKit Go.Shelf Plain
attribute [local go_sem] Oper.semAt_some

set_option maxHeartbeats 1000000 in
theorem values_any (w : World) (A : Option Addr) (n c : Nat) :
    Calls Try.prog 46 #[.slice A n c] w fun e w' => e = .returned (.func (.func 53) #[] #[.pointer (some ⟨w.heap.size, 0, none⟩)]) ∧ w' = w.alloc (.cells #[.slice A n c] 25) := by
  go_enter Try.func46, Try.ntmps46
  go_wp2_with fail
  go_ret
  exact ⟨rfl, rfl⟩
set_option maxRecDepth 100000 in
set_option maxHeartbeats 2000000 in
theorem tells_in (m : Nat) (hm : 1 ≤ m) (l bx n c : Nat) (A : Option Addr) (L : List Int) (hn : L.length = n) (hK : n ≤ 1000000) (J : List Int → World → Prop)
    (hJ : ∀ pre W, J pre W → W.cell? ⟨bx, 0, none⟩ = some (.slice A n c) ∧ RN W (fun _ => True) A c L)
    (hY : ∀ (pre : List Int) (x : Int) (W : World), J pre W → (pre = L.take pre.length ∧ L[pre.length]? = some x) → YieldAt Fence.wide (m - 1) Try.prog l #[.int .i64 x] W fun e W' => e = .returned (.bool true) ∧ J (pre ++ [x]) W')
    (W : World) (h0 : J [] W) :
    CallsIn Fence.wide m Try.prog 53 #[.func (.yield l) #[] #[], .pointer (some ⟨bx, 0, none⟩)] W fun e W' => (∃ v, e = .returned v) ∧ J L W' := by
  refine callsIn_of_wp Try.func53 rfl trivial ?_ rfl
  simp only [Try.ntmps53, List.size_toArray, List.length_cons, List.length_nil, Nat.reduceAdd, Nat.reduceSub, Array.replicate_succ, Array.replicate_zero, List.push_toArray, List.append_toArray, List.nil_append, List.cons_append]
  obtain ⟨c0, -⟩ := hJ _ _ h0
  have hro : Fence.wide.round = none := rfl
  have HJ := Lib.hid hJ; have HY := Lib.hid hY; have H0 := Lib.hid h0; have HN := Lib.hid hn
  clear hJ hY h0 hn
  gi_wp2
  clear c0
  gi_loopw [7] (fun s7 wr => ∃ k : Nat, k ≤ n ∧ s7 = .int .i64 (k : Int) ∧ Hid (J (L.take k) wr)) (fun s7 _ => n - (intOf s7).toNat)
  case atStart => exact ⟨0, by omega, rfl, H0⟩
  case round =>
    obtain ⟨k, hk, rfl, HJk⟩ := hrel
    by_cases hlt : k < n
    · obtain ⟨_, hr⟩ := HJ.out _ _ HJk.out
      obtain ⟨ad, rfl, _, _, hcx⟩ := hr.at_ (show k < L.length by rw [HN.out]; exact hlt)
      have hx := gn_some (l := L) (m := k) (by rw [HN.out]; exact hlt)
      have hkl : (L.take k).length = k := List.length_take_of_le (by rw [HN.out]; omega)
      have hsn : L.take (k + 1) = L.take k ++ [gn L k] := by rw [List.take_add_one, hx]; rfl
      have hcal := HY.out (L.take k) (gn L k) wr HJk.out ⟨by rw [hkl], by rw [hkl]; exact hx⟩
      rw [← hsn] at hcal
      generalize gn L k = x at *
      have q1 : (k : Int) < (n : Int) := by omega
      have q0 : (0 : Int) ≤ (k : Int) := by omega
      clear hr hx hkl hsn
      obtain ⟨fn, tmps, assign, body, hy, hR⟩ := hcal
      gi_wp2
      refine hR.mono ?_
      rintro e W3 ⟨rfl, hJ3⟩
      have H3 := Lib.hid hJ3
      clear hJ3 hR hy
      gi_wp2
      exact ⟨⟨k + 1, by omega, by go_num, H3⟩, by simp [intOf]; omega⟩
    · obtain rfl : k = n := by omega
      gi_wp2
      go_end0
      exact ⟨⟨_, rfl⟩, by have := HJk.out; rwa [List.take_of_length_le (by rw [HN.out]; exact Nat.le_refl _)] at this⟩
/-- Where AppendSeq's loop stands. -/
structure SeqI (w : World) (pre : List Int) (W : World) : Prop where
  ex : ∃ A3 c3, Blk W w.heap.size 25 #[.slice A3 pre.length c3] ∧ OwnI W (w.heap.size + 1) (.slice A3 pre.length c3) pre
  b : Below w.heap.size w W
theorem own_noCells {W W' : World} {B n : Nat} {e : TypeId} {v : Value} {xs : List Value} (h : W.ownsRow B e 1 v n xs) (hn : NoCells W W') : W'.ownsRow B e 1 v n xs := by
  refine ⟨h.1, ?_⟩
  rcases h.2 with h0 | ⟨g, cap, cur, h3, hb, hc, hr⟩
  · exact .inl h0
  · have hblk : Blk W g e cur := hc
    exact .inr ⟨g, cap, cur, h3, hb, hblk.noCells hn, hr⟩
theorem SeqI.put {w W W' : World} {pre : List Int} (H : SeqI w pre W) (hn : NoCells W W') (hf : Fr (fun k => w.heap.size ≤ k) W W') : SeqI w pre W' := by
  obtain ⟨A3, c3, h1, h2⟩ := H.ex
  exact ⟨⟨A3, c3, h1.noCells hn, own_noCells h2 hn⟩, H.b.trans (hf.below H.b.size (fun i hi => hi))⟩
set_option maxRecDepth 100000 in
set_option maxHeartbeats 4000000 in
theorem appendSeq_any (w : World) (D : Nat → Prop) (A : Option Addr) (n c bx : Nat) (L : List Int) (hr : RN w D A c L) (hn : L.length = n) (hK : n ≤ 1000000) (hbx : Blk w bx 25 #[.slice A n c]) :
    Calls Try.prog 55 #[.slice none 0 0, .func (.func 53) #[] #[.pointer (some ⟨bx, 0, none⟩)]] w fun e w' => ∃ v, e = .returned v ∧ OwnI w' w.heap.size v L ∧ Below w.heap.size w w' := by
  obtain ⟨i0, hi0, hz0, hz1, hz2⟩ := info_parts info_int
  refine (callsIn_wide (n := 3)).1 ?_
  refine callsIn_of_wp_marks Try.func55 rfl trivial ?_ rfl
  simp only [Try.ntmps55, List.size_toArray, List.length_cons, List.length_nil, Nat.reduceAdd, Nat.reduceSub, Array.replicate_succ, Array.replicate_zero, List.push_toArray, List.append_toArray, List.nil_append, List.cons_append]
  have HR := Lib.hid hr; have HBX := Lib.hid hbx; have HN := Lib.hid hn
  clear hr hbx hn
  gi_wp2_with fail
  have hI0 : SeqI w [] (w.alloc (.cells #[.slice none 0 0] 25)) := ⟨⟨none, 0, Blk.new w _ _, World.ownsRow_nil _ _ _ _⟩, (Below.refl _ _).alloc (Nat.le_refl _) _⟩
  refine range_told (n := 3) (by omega) (gf := 53) (lb := #[.pointer (some ⟨bx, 0, none⟩)]) rfl (enters_of Try.func53 (by kernel_rfl) rfl) (fun x : Int => #[.int .i64 x]) (fun _ => rfl)
    (SeqI w) (fun pre W k o o' hI hk ho hc => hI.put (NoCells.put o' ho hc) (putObj_fr W k o' (by simp at hk; omega))) (fun pre W o hI => hI.put (NoCells.alloc W o) (alloc_fr W o)) hI0
    (fun x => { tmps := #[.slice none 0 0, .func (.func 53) #[] #[.pointer (some ⟨bx, 0, none⟩)], .pointer (some ⟨w.heap.size, 0, none⟩), undef, .slice none 0 0, .int .i64 x, .func (.func 53) #[] #[.pointer (some ⟨bx, 0, none⟩)], .int .i64 x, undef, undef, undef, undef, undef], defers := [] }) ?assign
    (fun xs => xs = L) (fun pre x => pre = L.take pre.length ∧ L[pre.length]? = some x) ?hit ?body ?done
  case assign =>
    intro lq x W K hK
    gi_wp2
    exact hK
  case hit =>
    intro lq J W hJI hJ0 hY
    refine (tells_in 2 (by omega) lq bx n c A L HN.out hK J (fun pre W hJ => ?_) (fun pre x W hJ hv => hY pre x W hJ hv) W hJ0).mono ?_
    · have hI := hJI pre W hJ
      exact ⟨((HBX.out.below hI.b HBX.out.lt).cell 0).trans rfl, (HR.out.below hI.b (Nat.le_refl _)).mono (fun _ _ _ => trivial)⟩
    · rintro e W' ⟨h1, h2⟩
      exact ⟨h1, _, rfl, h2⟩
  case body =>
    rintro lq pre x W hI ⟨hp1, hp2⟩
    obtain ⟨A3, c3, hb, ho⟩ := hI.ex
    have hpl : pre.length ≤ 1000000 := by
      have := (List.getElem?_eq_some_iff.1 hp2).1
      have := HN.out
      omega
    have x2 : W.cell? ⟨w.heap.size, 0, none⟩ = some (.slice A3 pre.length c3) := (hb.cell 0).trans rfl
    have hbel := hI.b
    have hzw := hb.lt
    have hne : ∀ k, (Value.slice A3 pre.length c3).ownBlock = some k → k ≠ w.heap.size := fun k hk => by
      have := (own_blk ho hk).1
      omega
    have HO := Lib.hid ho; have HB := Lib.hid hb; have HBL := Lib.hid hbel; have HNE := Lib.hid hne
    have hfin : ∀ v5 W5, W5.ownsRow (w.heap.size + 1) 3 1 v5 (pre.length + 1) (pre.map EnI ++ [.int .i64 x]) → Below w.heap.size w W5 → W.heap.size ≤ W5.heap.size → (∀ k o, W.heap.size + 1 ≤ W.heap.size + 1 → w.heap.size + 1 ≤ k → W.heap[k]? = some o → o.isCells = false → W5.heap[k]? = some o) → Blk W5 w.heap.size 25 #[.slice A3 pre.length c3] →
        KeepsFrom (w.heap.size + 1) W (W5.setCell ⟨w.heap.size, 0, none⟩ v5) ∧ SeqI w (pre ++ [x]) (W5.setCell ⟨w.heap.size, 0, none⟩ v5) := by
      intro v5 W5 h1 h2 h3 h4 h5
      obtain ⟨A5, c5, rfl⟩ := own_form_any h1
      refine ⟨(⟨h3, fun k o hk hko hc => h4 k o (Nat.le_refl _) hk hko hc⟩ : KeepsFrom (w.heap.size + 1) W W5).trans ((KeepsOthers.setCell _ _ _).from _), ⟨⟨A5, c5, ?_, ?_⟩, h2.setCell (p := ⟨w.heap.size, 0, none⟩) (Nat.le_refl _) _⟩⟩
      · have := h5.set_ 0 (.slice A5 (pre.length + 1) c5)
        rw [show (pre ++ [x]).length = pre.length + 1 by simp]
        simpa using this
      · unfold OwnI
        rw [show (pre ++ [x]).length = pre.length + 1 by simp, List.map_append]
        exact own_set_far h1 (p := ⟨w.heap.size, 0, none⟩) (fun e => by have := (own_blk h1 e).1; simp at this; omega) _
    have HFIN := Lib.hid hfin
    clear hI hb ho hp1 hp2 hbel hne hfin hI0
    obtain ⟨zs, hzs⟩ : ∃ zs, zs = pre.map EnI := ⟨_, rfl⟩
    rw [← hzs] at HFIN
    have ho2 := HO.out
    unfold OwnI at ho2
    rw [← hzs] at ho2
    have HO2 := Lib.hid ho2
    clear ho2 hzs HO
    generalize pre.length = k at *
    gi_wp2_with (gi_at_builtin; refine wpListIn_append_own _ rfl _ _ 25 rfl (w.heap.size + 1) 3 i0 _ 1 8 Try.underlying25 hi0 hz0 hz1 hz2 rfl (by decide) _ _ _ rfl (HO2.out.alloc _) ⟨W.heap.size, 0, none⟩ 1 1 [.int .i64 x] rfl rfl (cell_one_new _ _ _) (by simp [Value.oneCell']) (by unfold maxLen; omega) (by omega) (by simp; omega) ?_; intro v' w5 hown5 hg5 _; obtain ⟨g', cap', rfl⟩ := ownsRow_succ hown5; have h5' := (((Fr.refl (fun i => (Value.slice A3 k c3).ownBlock = some i) W).alloc (.cells #[.int .i64 x] 3)).trans (Fr.of_grown hg5) (fun _ _ h => h)).blk HB.out (fun e => HNE.out _ e rfl); have x5' : w5.cell? ⟨w.heap.size, 0, none⟩ = some (.slice A3 k c3) := (h5'.cell 0).trans rfl; have x5z' : w5.frozen? ⟨w.heap.size, 0, none⟩ = false := h5'.frozen 0)
    have hfr5 : Fr (fun i => (Value.slice A3 k c3).ownBlock = some i) W w5 := ((Fr.refl (fun i => (Value.slice A3 k c3).ownBlock = some i) W).alloc (.cells #[.int .i64 x] 3)).trans (Fr.of_grown hg5) (fun _ _ h => h)
    refine HFIN.out _ w5 hown5 (HBL.out.trans (hfr5.below HBL.out.size (fun i hi => by have := (own_blk HO2.out hi).1; omega))) hfr5.size (fun k2 o _ hk2 hko hc => ?_) h5'
    refine (hfr5.block k2 (Array.getElem?_eq_some_iff.1 hko).1 (fun e => ?_)).trans hko
    obtain ⟨_, _, cs, hbk⟩ := own_blk HO2.out e
    unfold Blk at hbk
    rw [hbk] at hko
    cases hko
    simp [Obj.isCells] at hc
  case done =>
    rintro D xs W hD rfl hI hK
    obtain ⟨A3, c3, hb, ho⟩ := hI.ex
    have x2 : W.cell? ⟨w.heap.size, 0, none⟩ = some (.slice A3 xs.length c3) := (hb.cell 0).trans rfl
    have hbel := hI.b
    have HO := Lib.hid ho; have HK := Lib.hid hK; have HB := Lib.hid hbel
    clear hI hb ho hbel hI0
    gi_wp2
    refine ⟨by simp, .inl ⟨_, _, rfl, run_takeDeferred HK.out, ?_⟩⟩
    exact ⟨_, results_tmp rfl _ _ _, _, rfl, own_base (own_noCells HO.out (NoCells.put _ HK.out rfl)) (by omega), HB.out.trans ((putObj_fr (w := w) W D _ (by simp at hD; omega)).below HB.out.size (fun i hi => hi))⟩
end Go.Proofs.Ytbgigkamlnchcaa
