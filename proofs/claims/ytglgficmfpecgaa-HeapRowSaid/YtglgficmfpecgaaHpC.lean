
/-
  Calls of layer 8: cmp.Compare, cmp.Or of two, compare.
-/
import Derived.Test.YtglgficmfpecgaaHpM
import Derived.Deep.RegionLaw
import Derived.BigQuiet
set_option linter.unusedVariables false
set_option linter.unusedSimpArgs false
namespace Go.Proofs.Ytglgficmfpecgaa
open Go.RowKit Plain

set_option maxHeartbeats 1000000 in
theorem nan_any (z : Int) (W : World) : Calls Try.prog 49 #[.int .i64 z] W fun e w' => e = .returned (.bool false) ∧ W = w' := by
  go_enter Try.func49, Try.ntmps49
  go_wp2_with fail
  go_ret
  exact ⟨by simp, rfl⟩
set_option maxHeartbeats 1000000 in
theorem cmpi_any (x y : Int) (w : World) : Calls Try.prog 36 #[.int .i64 x, .int .i64 y] w fun e w' => e = .returned (.int .i64 (cmpI x y)) ∧ w = w' := by
  have HN := Lib.hid nan_any
  obtain ⟨r, hr⟩ : ∃ r, r = cmpI x y := ⟨_, rfl⟩
  rw [← hr]
  unfold cmpI at hr
  by_cases h1 : x < y
  · rw [if_pos h1] at hr
    subst hr
    go_enter Try.func36, Try.ntmps36
    go_wp2_with fail
    refine (HN.out x w).mono ?_
    rintro e w1 ⟨rfl, rfl⟩
    go_wp2_with fail
    refine (HN.out y w).mono ?_
    rintro e w1 ⟨rfl, rfl⟩
    go_wp2_with fail
    go_ret
    exact ⟨rfl, rfl⟩
  · rw [if_neg h1] at hr
    by_cases h2 : y < x
    · rw [if_pos h2] at hr
      subst hr
      go_enter Try.func36, Try.ntmps36
      go_wp2_with fail
      refine (HN.out x w).mono ?_
      rintro e w1 ⟨rfl, rfl⟩
      go_wp2_with fail
      refine (HN.out y w).mono ?_
      rintro e w1 ⟨rfl, rfl⟩
      go_wp2_with fail
      go_ret
      exact ⟨rfl, rfl⟩
    · rw [if_neg h2] at hr
      subst hr
      go_enter Try.func36, Try.ntmps36
      go_wp2_with fail
      refine (HN.out x w).mono ?_
      rintro e w1 ⟨rfl, rfl⟩
      go_wp2_with fail
      refine (HN.out y w).mono ?_
      rintro e w1 ⟨rfl, rfl⟩
      go_wp2_with fail
      go_ret
      exact ⟨rfl, rfl⟩

def orV (x y : Int) : Int := if x ≠ 0 then x else y
set_option maxHeartbeats 1000000 in
theorem or2_any (x y : Int) (ad : Addr) (c : Nat) (w : World) (h0 : w.cell? (ad.add 0) = some (.int .i64 x)) (h1 : w.cell? (ad.add 1) = some (.int .i64 y)) :
    Calls Try.prog 35 #[.slice (some ad) 2 c] w fun e w' => e = .returned (.int .i64 (orV x y)) ∧ w = w' := by
  obtain ⟨r, hr⟩ : ∃ r, r = orV x y := ⟨_, rfl⟩
  rw [← hr]
  unfold orV at hr
  have HU := Lib.hid h1
  have HT := Lib.hid h0
  have HR := Lib.hid hr
  clear h1 h0 hr
  go_enter Try.func35, Try.ntmps35
  go_wp2_with fail
  go_loopw [8] (fun s wr => ∃ k : Nat, k ≤ 2 ∧ s = .int .i64 (k : Int) ∧ wr = w ∧ (Hid ((0 < k → x = 0) ∧ (1 < k → y = 0)))) (fun s _ => 2 - (intOf s).toNat)
  case atStart =>
    exact ⟨0, by omega, by simp, by simp, Lib.hid ⟨fun h => absurd h (by omega), fun h => absurd h (by omega)⟩⟩
  case round =>
    obtain ⟨k, hk, rfl, rfl, hx⟩ := hrel
    obtain ⟨z, hz, hzr⟩ : ∃ z, (k < 2 → wr.cell? (ad.add k) = some (.int .i64 z)) ∧ Hid (k = 0 ∧ z = x ∨ k = 1 ∧ z = y ∨ k = 2) := by
      match k, hk with
      | 0, _ => exact ⟨x, fun _ => HT.out, Lib.hid (by simp)⟩
      | 1, _ => exact ⟨y, fun _ => HU.out, Lib.hid (by simp)⟩
      | 2, _ => exact ⟨0, fun h => absurd h (by omega), Lib.hid (by simp)⟩
      | k + 3, hk => omega
    by_cases hlt : k < 2
    · have hc := hz hlt
      clear hz
      by_cases e : z = 0
      · subst e
        go_wp2_with fail
        refine ⟨⟨k + 1, by omega, by go_num, by simp, Lib.hid ?_⟩, by simp [intOf]; omega⟩
        have h1 := hzr.out
        have h2 := hx.out
        refine ⟨fun _ => ?_, fun h => ?_⟩
        · rcases h1 with ⟨_, h1⟩ | ⟨rfl, _⟩ | h1
          · exact h1.symm
          · exact h2.1 (by omega)
          · omega
        · rcases h1 with ⟨rfl, h1⟩ | ⟨_, h1⟩ | h1
          · omega
          · exact h1.symm
          · omega
      · go_wp2_with fail
        go_ret
        have h1 := hzr.out
        have h2 := hx.out
        have h3 := HR.out
        refine ⟨?_, rfl⟩
        show Ending.returned (.int .i64 z) = _
        rcases h1 with ⟨_, h1⟩ | ⟨h0, h1⟩ | h1
        · subst h1
          rw [h3, if_pos e]
        · subst h1
          rw [h3, if_neg (by simpa using h2.1 (by omega))]
        · omega
    · go_wp2_with fail
      go_ret
      have h2 := hx.out
      have h3 := HR.out
      refine ⟨?_, rfl⟩
      rw [h3, h2.1 (by omega), h2.2 (by omega)]
      simp

theorem or2_new (x y : Int) (W W' : World) (b : Nat) (hW : W' = (W.alloc (.cells #[.int .i64 x, .int .i64 y] 3)).drew ∨ W' = W.alloc (.cells #[.int .i64 x, .int .i64 y] 3)) (hb : W.heap.size = b) :
    Calls Try.prog 35 #[.slice (some ⟨b, 0, none⟩) 2 2] W' fun e w' => e = .returned (.int .i64 (orV x y)) ∧ W' = w' := by
  subst hb
  have h0 : (W.alloc (.cells #[.int .i64 x, .int .i64 y] 3)).cell? ⟨W.heap.size, 0, none⟩ = some (.int .i64 x) := ((Blk.new W _ _).cell 0).trans rfl
  have h1 : (W.alloc (.cells #[.int .i64 x, .int .i64 y] 3)).cell? ⟨W.heap.size, 1, none⟩ = some (.int .i64 y) := ((Blk.new W _ _).cell 1).trans rfl
  rcases hW with rfl | rfl
  · exact or2_any x y ⟨W.heap.size, 0, none⟩ 2 _ h0 h1
  · exact or2_any x y ⟨W.heap.size, 0, none⟩ 2 _ h0 h1
def tmV (t : Tm) : Value := .agg #[.int .i64 t.1, .int .i64 t.2]
set_option maxHeartbeats 2000000 in
theorem compare_any (a b : Tm) (w : World) : Calls Try.prog 29 #[tmV a, tmV b] w fun e w' => e = .returned (.int .i64 (cmpT a b)) ∧ Below w.heap.size w w' := by
  obtain ⟨a1, a2⟩ := a
  obtain ⟨b1, b2⟩ := b
  unfold tmV
  rw [show cmpT (a1, a2) (b1, b2) = orV (cmpI a2 b2) (cmpI a1 b1) from rfl]
  have HC := Lib.hid cmpi_any
  go_enter Try.func29, Try.ntmps29
  go_wp2_with fail
  have hbel : Below w.heap.size w ((w.alloc (.cells #[.int .i64 a1, .int .i64 a2] 59)).alloc (.cells #[.int .i64 b1, .int .i64 b2] 59)) := ((Below.refl _ w).alloc (Nat.le_refl _) _).alloc (by simp) _
  go_region_held3 (fun w' => w'.cell? ⟨w.heap.size, 0, none⟩ = some (.int .i64 a1) ∧ w'.cell? ⟨w.heap.size, 1, none⟩ = some (.int .i64 a2) ∧ w'.cell? ⟨w.heap.size + 1, 0, none⟩ = some (.int .i64 b1) ∧ w'.cell? ⟨w.heap.size + 1, 1, none⟩ = some (.int .i64 b2))
    (go_keep)
    (first
      | (go_simp; go_at_call 36; (with_reducible refine (HC.out _ _ _).mono ?_); rintro e wq ⟨rfl, rfl⟩)
      | (go_simp; go_at_call 35; (with_reducible refine (or2_new (cmpI a2 b2) (cmpI a1 b1) _ _ _ (by first | with_reducible exact Or.inl rfl | with_reducible exact Or.inr rfl) (by simp)).mono ?_); rintro e wq ⟨rfl, rfl⟩)
      | fail)
  go_wp2_with fail
  go_ret
  exact ⟨rfl, (hbel.alloc (by simp; omega) _).drew⟩
end Go.Proofs.Ytglgficmfpecgaa
