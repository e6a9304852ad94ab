
/-
  The document's Free.
-/
import Derived.Test.YtikelkfinjcgaaaLkZ
set_option linter.unusedVariables false
set_option linter.unusedSimpArgs false
namespace Go.Proofs.Ytikelkfinjcgaaa
open Go.RowKit Plain

theorem none_false {L : List (List Int)} {i : Nat} (hi : i < L.length) (h : 0 < (gl L i).length) : none_ L = false := by
  unfold none_
  rw [List.all_eq_false]
  refine ⟨gl L i, List.mem_of_getElem? (gl_some hi), ?_⟩
  cases hr : gl L i with
  | nil => rw [hr] at h; simp at h
  | cons x r => simp
theorem none_true {L : List (List Int)} (h : ∀ i, i < L.length → (gl L i).length = 0) : none_ L = true := by
  unfold none_
  rw [List.all_eq_true]
  intro l hl
  obtain ⟨i, hi, e⟩ := List.getElem_of_mem hl
  have h1 := h i hi
  have : gl L i = l := by
    unfold gl
    rw [List.getElem?_eq_getElem hi, e]
    rfl
  rw [this] at h1
  simpa using h1
theorem own_false {l : List Int} {i : Nat} (hi : i < l.length) (h : 0 ≤ gn l i) : l.all (fun x => x == -1) = false := by
  rw [List.all_eq_false]
  refine ⟨gn l i, gn_mem hi, ?_⟩
  have : ¬ gn l i = -1 := by omega
  simpa using this
theorem own_true {l : List Int} (h : ∀ i, i < l.length → gn l i < 0) (h1 : ∀ x ∈ l, -1 ≤ x) : l.all (fun x => x == -1) = true := by
  rw [List.all_eq_true]
  intro x hx
  obtain ⟨i, hi, e⟩ := List.getElem_of_mem hx
  have h2 := h i hi
  have : gn l i = x := by
    unfold gn
    rw [List.getElem?_eq_getElem hi, e]
    rfl
  have h3 := h1 x hx
  rw [this] at h2
  have : x = -1 := by omega
  simpa using this
set_option maxRecDepth 100000 in
set_option maxHeartbeats 8000000 in
theorem refFree_any (w : World) (E : Nat → Prop) (z : LkQ) (p q n : Nat) (s : Lk) (h : DocC w E z p q n s) (hs : SzL s) (h1 : ∀ x ∈ s.own, -1 ≤ x) :
    Calls Try.prog 12 #[.agg (mkC z p q n)] w fun e w' => e = .returned (.bool (freeV s)) ∧ Below w.heap.size w w' := by
  have hpa : p ≤ 100000 := by have := hs.a; have := h.lo; omega
  have hna : n ≤ 100000 := by have := hs.b; have := h.ln; omega
  have hqa : q ≤ 100000 := by have := hs.c; have := h.lw; omega
  obtain ⟨W0, hW0⟩ : ∃ W, W = w.alloc (.cells (mkC z p q n) 27) := ⟨_, rfl⟩
  have k0 : Blk W0 w.heap.size 27 (mkC z p q n) := by rw [hW0]; exact Blk.new w _ _
  have l0 : Below w.heap.size w W0 := by rw [hW0]; exact (Below.refl _ w).alloc (Nat.le_refl _) _
  have hd := h.below l0 (Nat.le_refl _)
  obtain ⟨x0, x1, x2, x3, x4, x5, x6, x7, x8, x9⟩ := blk10 k0
  obtain ⟨fv, hfv⟩ : ∃ fv, fv = freeV s := ⟨_, rfl⟩
  rw [← hfv]
  have HFV := Lib.hid hfv
  clear hfv
  have HW0 := Lib.hid hW0; have HD := Lib.hid hd; have L0 := Lib.hid l0; have H1 := Lib.hid h1
  clear hW0 hd l0 h h1 k0 x0 x1 x3 x4 x8 x9
  go_enter Try.func12, Try.ntmps12
  go_upto_region 2 with fail
  rw [← HW0.out]
  clear HW0
  go_loopw [3] (fun s3 wr => ∃ k : Nat, k ≤ p ∧ s3 = .int .i64 (k : Int) ∧ W0 = wr ∧ Hid (∀ i, i < k → gn s.own i < 0 ∧ (gl s.lq i).length = 0)) (fun s3 _ => p - (intOf s3).toNat)
  case atStart => exact ⟨0, by omega, rfl, rfl, Lib.hid (fun i hi => by omega)⟩
  case round =>
    obtain ⟨k, hk, rfl, rfl, HO⟩ := hrel
    by_cases hlt : k < p
    · have q1 : (k : Int) < (p : Int) := by omega
      have q0 : (0 : Int) ≤ (k : Int) := by omega
      obtain ⟨ad, e1, _, _, e4⟩ := HD.out.own.at_ (i := k) (by rw [HD.out.lo]; exact hlt)
      obtain ⟨bd, A1, d1, f1, _, _, f4, _⟩ := HD.out.lq.at_ (i := k) (by rw [HD.out.ll]; exact hlt)
      rw [e1] at x2
      rw [f1] at x5
      by_cases ho : 0 ≤ gn s.own k
      · have hfr : freeV s = false := by
          unfold freeV
          rw [own_false (by rw [HD.out.lo]; exact hlt) ho]
          rfl
        generalize gn s.own k = y at *
        clear e1 f1
        go_wp2_with fail
        go_ret
        exact ⟨by rw [show fv = false by rw [HFV.out]; exact hfr]; rfl, L0.out⟩
      · by_cases hr : 0 < (gl s.lq k).length
        · have hfr : freeV s = false := by
            unfold freeV
            rw [none_false (by rw [HD.out.ll]; exact hlt) hr]
            simp
          have hr2 : (0 : Int) < ((gl s.lq k).length : Int) := by omega
          generalize gn s.own k = y at *
          generalize (gl s.lq k).length = rl at *
          clear e1 f1
          go_wp2_with fail
          go_ret
          exact ⟨by rw [show fv = false by rw [HFV.out]; exact hfr]; rfl, L0.out⟩
        · have hr2 : (gl s.lq k).length = 0 := by omega
          have HO2 : Hid (∀ i, i < k + 1 → gn s.own i < 0 ∧ (gl s.lq i).length = 0) := Lib.hid (fun i hi => by
            by_cases e : i = k
            · subst e
              exact ⟨by omega, hr2⟩
            · exact HO.out i (by omega))
          rw [hr2] at f4
          generalize gn s.own k = y at *
          clear e1 f1 hr hr2
          go_wp2_with fail
          exact ⟨⟨k + 1, by omega, by go_num, by trivial, HO2⟩, by simp [intOf]; omega⟩
    · obtain rfl : k = p := by omega
      go_wp2_with fail
      go_loopw [4] (fun s4 wr => ∃ j : Nat, j ≤ q ∧ s4 = .int .i64 (j : Int) ∧ W0 = wr ∧ Hid (∀ i, i < j → (gl s.wq i).length = 0)) (fun s4 _ => q - (intOf s4).toNat)
      case atStart => exact ⟨0, by omega, rfl, rfl, Lib.hid (fun i hi => by omega)⟩
      case round =>
        obtain ⟨j, hj, rfl, rfl, HQwq⟩ := hrel
        by_cases hlt : j < q
        · have q1 : (j : Int) < (q : Int) := by omega
          have q0 : (0 : Int) ≤ (j : Int) := by omega
          obtain ⟨bd, A1, d1, f1, _, _, f4, _⟩ := HD.out.wq.at_ (i := j) (by rw [HD.out.lw]; exact hlt)
          rw [f1] at x6
          by_cases hr : 0 < (gl s.wq j).length
          · have hfr : freeV s = false := by
              unfold freeV
              rw [none_false (by rw [HD.out.lw]; exact hlt) hr]
              simp
            have hr2 : (0 : Int) < ((gl s.wq j).length : Int) := by omega
            generalize (gl s.wq j).length = rl at *
            clear f1
            go_wp2_with fail
            go_ret
            exact ⟨by rw [show fv = false by rw [HFV.out]; exact hfr]; rfl, L0.out⟩
          · have hr2 : (gl s.wq j).length = 0 := by omega
            have HQ2 : Hid (∀ i, i < j + 1 → (gl s.wq i).length = 0) := Lib.hid (fun i hi => by
              by_cases e : i = j
              · subst e
                exact hr2
              · exact HQwq.out i (by omega))
            rw [hr2] at f4
            clear f1 hr hr2
            go_wp2_with fail
            exact ⟨⟨j + 1, by omega, by go_num, by trivial, HQ2⟩, by simp [intOf]; omega⟩
        · obtain rfl : j = q := by omega
          go_wp2_with fail
          go_loopw [5] (fun s4 wr => ∃ j : Nat, j ≤ n ∧ s4 = .int .i64 (j : Int) ∧ W0 = wr ∧ Hid (∀ i, i < j → (gl s.dq i).length = 0)) (fun s4 _ => n - (intOf s4).toNat)
          case atStart => exact ⟨0, by omega, rfl, rfl, Lib.hid (fun i hi => by omega)⟩
          case round =>
            obtain ⟨j, hj, rfl, rfl, HQdq⟩ := hrel
            by_cases hlt : j < n
            · have q1 : (j : Int) < (n : Int) := by omega
              have q0 : (0 : Int) ≤ (j : Int) := by omega
              obtain ⟨bd, A1, d1, f1, _, _, f4, _⟩ := HD.out.dq.at_ (i := j) (by rw [HD.out.ld]; exact hlt)
              rw [f1] at x7
              by_cases hr : 0 < (gl s.dq j).length
              · have hfr : freeV s = false := by
                  unfold freeV
                  rw [none_false (by rw [HD.out.ld]; exact hlt) hr]
                  simp
                have hr2 : (0 : Int) < ((gl s.dq j).length : Int) := by omega
                generalize (gl s.dq j).length = rl at *
                clear f1
                go_wp2_with fail
                go_ret
                exact ⟨by rw [show fv = false by rw [HFV.out]; exact hfr]; rfl, L0.out⟩
              · have hr2 : (gl s.dq j).length = 0 := by omega
                have HQ2 : Hid (∀ i, i < j + 1 → (gl s.dq i).length = 0) := Lib.hid (fun i hi => by
                  by_cases e : i = j
                  · subst e
                    exact hr2
                  · exact HQdq.out i (by omega))
                rw [hr2] at f4
                clear f1 hr hr2
                go_wp2_with fail
                exact ⟨⟨j + 1, by omega, by go_num, by trivial, HQ2⟩, by simp [intOf]; omega⟩
            · obtain rfl : j = n := by omega
              have hft : fv = true := by
                rw [HFV.out]
                unfold freeV
                rw [own_true (fun i hi => (HO.out i (by rw [HD.out.lo] at hi; exact hi)).1) H1.out, none_true (fun i hi => (HO.out i (by rw [HD.out.ll] at hi; exact hi)).2), none_true (fun i hi => HQwq.out i (by rw [HD.out.lw] at hi; exact hi)), none_true (fun i hi => HQdq.out i (by rw [HD.out.ld] at hi; exact hi))]
                rfl
              go_wp2_with fail
              go_ret
              exact ⟨by rw [hft]; rfl, L0.out⟩
end Go.Proofs.Ytikelkfinjcgaaa
