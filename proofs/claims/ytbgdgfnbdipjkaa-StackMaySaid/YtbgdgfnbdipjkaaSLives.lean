
/-
  The document's example of layer 4.
-/
import Derived.Test.YtbgdgfnbdipjkaaThrG
set_option linter.unusedVariables false
set_option linter.unusedSimpArgs false
namespace Go.Proofs.Ytbgdgfnbdipjkaa
open Go.RowKit Plain

def oneP : PV := ⟨[⟨1, []⟩], 0, [], [], [], [], 1⟩
def oneH (g : Nat) : PH := ⟨some ⟨g, 0, none⟩, 1, none, 0, none, 0, none, 0, none, 0⟩
def oneT : TV := pushT (newT oneP 0) 2147483648
theorem one_may : mayT oneP oneT = true := by decide
theorem one_lens : Lens oneP := ⟨by decide, by decide, by decide, by decide, by decide, by decide, by decide⟩
theorem one_few : FewLoc oneP := by unfold FewLoc; decide
theorem one_lensT : LensT oneT := ⟨by decide, by decide, by decide⟩
theorem one_lensN : LensT (newT oneP 0) := ⟨by decide, by decide, by decide⟩
theorem one_rp (w : World) : RP (w.alloc (.cells #[.int .i64 1, .slice none 0 0] 64)) (w.heap.size + 1) (oneH w.heap.size) oneP := by
  refine ⟨⟨[⟨⟨1, []⟩, none, 0⟩], rfl, rfl, Nat.le_refl _, ?_, ?_⟩, ⟨rfl, Nat.le_refl _, Reads.none_⟩, ⟨rfl, Nat.le_refl _, Reads.none_⟩, ⟨rfl, Nat.le_refl _, Reads.none_⟩, ⟨[], rfl, rfl, Nat.le_refl _, Reads.none_, by simp⟩⟩
  · refine ⟨rfl, fun _ => ⟨_, rfl, by simp, fun j x hj => ?_⟩⟩
    match j, hj with
    | 0, hj => simp [FS, flat2, TF.cells] at hj; subst hj; simp [Addr.add]
    | 1, hj => simp [FS, flat2, TF.cells] at hj; subst hj; simp [Addr.add]
  · intro t ht
    simp at ht
    subst ht
    exact ⟨rfl, Nat.le_refl _, rfl, fun h => absurd h (by simp)⟩

set_option maxHeartbeats 1000000 in
set_option maxRecDepth 100000 in
theorem one_any (w : World) : Calls Try.prog 45 #[] w fun e w' => ∃ g, e = .returned (.agg #[.slice (some ⟨g, 0, none⟩) 1 1, .int .i64 0, .slice none 0 0, .slice none 0 0, .slice none 0 0, .slice none 0 0, .int .i64 1]) ∧ RP w' w'.heap.size (oneH g) oneP ∧ Below w.heap.size w w' := by
  go_enter Try.func45, Try.ntmps45
  go_wp2_with fail
  have hr := one_rp (w.alloc (.cells #[.slice (some ⟨w.heap.size + 1, 0, none⟩) 1 1, .int .i64 0, .slice none 0 0, .slice none 0 0, .slice none 0 0, .slice none 0 0, .int .i64 1] 26))
  simp only [World.size_alloc] at hr
  refine bodyPost_ret (v := .agg #[.slice (some ⟨w.heap.size + 1, 0, none⟩) 1 1, .int .i64 0, .slice none 0 0, .slice none 0 0, .slice none 0 0, .slice none 0 0, .int .i64 1]) (results_cell_row rfl _ _ w.heap.size 26 _ (0, 0) _ rfl ((Blk.new w _ _).alloc _) Try.underlying26 rfl (by kernel_rfl)) rfl ?_
  refine ⟨w.heap.size + 1, rfl, ?_, ((Below.refl _ _).alloc (Nat.le_refl _) _).alloc (by simp) _⟩
  simpa using hr

set_option maxHeartbeats 4000000 in
set_option maxRecDepth 100000 in
theorem slives_any (w : World) : Calls Try.prog 19 #[] w fun e w' => e = .returned (.bool true) ∧ Below w.heap.size w w' := by
  go_enter Try.func19, Try.ntmps19
  go_wp2_with fail
  refine (one_any w).mono ?_
  rintro e w1 ⟨g, rfl, hrp, hb1⟩
  have HRP := Lib.hid hrp; have HB1 := Lib.hid hb1
  clear hrp hb1
  go_wp2_with fail
  refine (new_any (oneH g) oneP w1 w1.heap.size HRP.out (Nat.le_refl _) one_few (by decide) 0 (by decide)).mono ?_
  rintro e w2 ⟨⟨fA, fc, sA, sc⟩, rfl, hrt, hb2⟩
  have HRT := Lib.hid hrt; have HB2 := Lib.hid hb2
  clear hrt hb2
  go_wp2_with fail
  refine (push_yes ⟨fA, fc, sA, sc⟩ (newT oneP 0) 2147483648 w2 _ HRT.out one_lensN (by decide)).mono ?_
  rintro e w3 ⟨⟨fA', fc', sA', sc'⟩, he, hrt, hb3⟩
  have he' : e = .returned (.tuple #[.agg #[.int .i64 0, .int .i64 0, .slice fA' 1 fc', .slice sA' 1 sc', .int .i64 0], .bool true]) := he
  clear he
  subst he'
  have hst : RI w3 w3.heap.size sA' 1 sc' oneT.stack := hrt.stack.ri
  obtain ⟨ad, z, hsA, hab, hz, hc⟩ := hst.at_ (k := 0) (by decide)
  have hz1 : z = 1073741824 := by
    have h2 : oneT.stack[0]? = some 1073741824 := by decide
    rw [h2] at hz; injection hz with h1; exact h1.symm
  subst hz1
  subst hsA
  have had : ad.add 0 = ad := by simp [Addr.add]
  rw [had] at hc
  have hbw : Below w.heap.size w w3 := (HB1.out.trans (HB2.out.mono HB1.out.size)).trans (hb3.mono (by have := HB1.out.size; have := HB2.out.size; omega))
  have HBW := Lib.hid hbw; have HRT3 := Lib.hid hrt
  have hzw := hbw.size
  clear hst hz had hbw hrt hb3 HRT HB2 HRP HB1
  go_upto_region 2 with fail
  obtain ⟨W4, hW4⟩ : ∃ W, W = w3.alloc (.cells #[.int .i64 0, .int .i64 0, .slice fA' 1 fc', .slice (some ad) 1 sc', .int .i64 0] 29) := ⟨_, rfl⟩
  have hb4 : Below w3.heap.size w3 W4 := by rw [hW4]; exact (Below.refl _ _).alloc (Nat.le_refl _) _
  have hbk : Blk W4 w3.heap.size 29 #[.int .i64 0, .int .i64 0, .slice fA' 1 fc', .slice (some ad) 1 sc', .int .i64 0] := by rw [hW4]; exact Blk.new _ _ _
  rw [← hW4]
  clear hW4
  have hz4 : w3.heap.size < W4.heap.size := hbk.lt
  have KS : Hid (∀ X, Below W4.heap.size W4 X → X.cell? ⟨w3.heap.size, 0, none⟩ = some (.int .i64 0) ∧ X.cell? ⟨w3.heap.size, 1, none⟩ = some (.int .i64 0) ∧ X.cell? ⟨w3.heap.size, 2, none⟩ = some (.slice fA' 1 fc') ∧ X.cell? ⟨w3.heap.size, 3, none⟩ = some (.slice (some ad) 1 sc') ∧ X.cell? ⟨w3.heap.size, 4, none⟩ = some (.int .i64 0) ∧ X.cell? ad = some (.int .i64 1073741824)) := fun X hX =>
    ⟨(hX.cell (p := ⟨w3.heap.size, 0, none⟩) hz4).trans ((hbk.cell 0).trans rfl), (hX.cell (p := ⟨w3.heap.size, 1, none⟩) hz4).trans ((hbk.cell 1).trans rfl), (hX.cell (p := ⟨w3.heap.size, 2, none⟩) hz4).trans ((hbk.cell 2).trans rfl), (hX.cell (p := ⟨w3.heap.size, 3, none⟩) hz4).trans ((hbk.cell 3).trans rfl), (hX.cell (p := ⟨w3.heap.size, 4, none⟩) hz4).trans ((hbk.cell 4).trans rfl), ((hX.cell (p := ad) (by omega)).trans (hb4.cell hab)).trans hc⟩
  have MY : Hid (∀ X g, Below W4.heap.size W4 X → RP X X.heap.size (oneH g) oneP → Calls Try.prog 13 #[.agg #[.slice (some ⟨g, 0, none⟩) 1 1, .int .i64 0, .slice none 0 0, .slice none 0 0, .slice none 0 0, .slice none 0 0, .int .i64 1], .agg #[.int .i64 0, .int .i64 0, .slice fA' 1 fc', .slice (some ad) 1 sc', .int .i64 0]] X fun e w' => e = .returned (.bool true) ∧ Below X.heap.size X w') := fun X g hX hp =>
    may_yes (oneH g) oneP X X.heap.size hp (Nat.le_refl _) one_lens ⟨fA', fc', some ad, sc'⟩ oneT _ (HRT3.out.below (hb4.trans (hX.mono (by omega)))) one_lensT one_may (by decide)
  have HB4 : Hid (Below w.heap.size w W4) := HBW.out.trans (hb4.mono hzw)
  have hzw4 : w.heap.size ≤ W4.heap.size := by omega
  clear hbk hb4 hc hab HRT3 HBW
  go_region_held3 (fun w' => w'.cell? ⟨w3.heap.size, 0, none⟩ = some (.int .i64 0) ∧ w'.cell? ⟨w3.heap.size, 1, none⟩ = some (.int .i64 0) ∧ w'.cell? ⟨w3.heap.size, 2, none⟩ = some (.slice fA' 1 fc') ∧ w'.cell? ⟨w3.heap.size, 3, none⟩ = some (.slice (some ad) 1 sc') ∧ w'.cell? ⟨w3.heap.size, 4, none⟩ = some (.int .i64 0) ∧ w'.cell? ad = some (.int .i64 1073741824))
    (first | (exact KS.out _ (by repeat (first | assumption | exact Below.refl _ _ | refine Below.drew ?_))))
    (first
      | (go_simp; refine (one_any _).mono ?_; rintro e w5 ⟨g5, rfl, hp5, h5'⟩
         have h5 : Below W4.heap.size W4 w5 := ((Below.refl _ _).drew).trans h5')
      | (go_simp; refine (MY.out _ g5 h5 hp5).mono ?_; rintro e w6 ⟨rfl, h6'⟩
         have h6 : Below W4.heap.size W4 w6 := h5.trans (h6'.mono h5.size)))
  all_goals
    go_wp2_with fail
    go_ret
    exact ⟨rfl, HB4.out.trans (h6.mono hzw4)⟩
end Go.Proofs.Ytbgdgfnbdipjkaa
