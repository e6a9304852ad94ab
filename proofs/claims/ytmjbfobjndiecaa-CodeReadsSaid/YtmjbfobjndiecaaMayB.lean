
/-
  The program's rule of choices.
-/
import Derived.Test.YtmjbfobjndiecaaMayA
set_option linter.unusedVariables false
set_option linter.unusedSimpArgs false
namespace Go.Proofs.Ytmjbfobjndiecaa
open Go.RowKit Plain

/-- No list of a program is longer than memory may hold. -/
structure Lens (p : PV) : Prop where
  funcs : p.funcs.length ≤ 9223372036854775807
  code : ∀ f ∈ p.funcs, f.code.length ≤ 9223372036854775807
  conds : p.conds.length ≤ 9223372036854775807
  semas : p.semas.length ≤ 9223372036854775807
  chans : p.chans.length ≤ 9223372036854775807
  choices : p.choices.length ≤ 9223372036854775807
  each : ∀ l ∈ p.choices, l.length ≤ 9223372036854775807

theorem RI.take {w : World} {B n c k : Nat} {A : Option Addr} {l : List Int} (h : RI w B A n c l) (hk : k ≤ n) : RI w B A k c (l.take k) := by
  obtain ⟨h1, h2, h3⟩ := h
  refine ⟨by simp; omega, by omega, by rw [IS_length]; simp; omega, fun h0 => ?_⟩
  obtain ⟨ad, e, hb, hc⟩ := h3.2 (by omega)
  refine ⟨ad, e, hb, fun j u hj => hc j u ?_⟩
  have hjk : j < k := by
    have := (List.getElem?_eq_some_iff.1 hj).1
    rw [IS_length] at this
    simp at this
    omega
  rw [← hj]
  simp [IS, hjk]

/-- A choice, as the program asks. -/
def choiceC (n : Int) (l : List Int) : Bool := !l.isEmpty && listB l n && nodupB l
def choicesB (p : PV) : Bool := decide (p.choices.length ≤ 8) && p.choices.all (choiceC p.chans.length)

theorem nodup_snoc (l : List Int) (x : Int) : nodupB (l ++ [x]) = (nodupB l && !l.contains x) := by
  induction l with
  | nil => rfl
  | cons y r ih =>
    simp only [List.cons_append, nodupB, ih, List.contains_eq_mem, List.mem_append, List.mem_singleton, List.mem_cons]
    by_cases h1 : y ∈ r <;> by_cases h3 : x ∈ r <;> by_cases h2 : y = x
    all_goals first
      | (subst h2; simp [h1, h3])
      | simp [h1, h3, h2, Ne.symm h2]
theorem nodup_take {l : List Int} {k : Nat} {x : Int} (hx : l[k]? = some x) : nodupB (l.take (k + 1)) = (nodupB (l.take k) && !(l.take k).contains x) := by
  rw [List.take_add_one, hx]
  exact nodup_snoc _ _
theorem nodup_false {l : List Int} {k : Nat} (h : nodupB (l.take k) = false) : nodupB l = false := by
  have : ∀ (a b : List Int), nodupB a = false → nodupB (a ++ b) = false := by
    intro a b
    induction b generalizing a with
    | nil => intro h; simpa using h
    | cons y r ih =>
      intro h
      have := ih (a ++ [y]) (by rw [nodup_snoc, h]; rfl)
      simpa using this
  rw [← List.take_append_drop k l]
  exact this _ _ h
theorem all_take' {α : Type} {l : List α} {P : α → Bool} {k : Nat} {x : α} (hx : l[k]? = some x) : (l.take (k + 1)).all P = ((l.take k).all P && P x) := by
  rw [List.take_add_one, hx]; simp

set_option maxHeartbeats 4000000 in
set_option maxRecDepth 100000 in
theorem mayChoices_any (h : PH) (p : PV) (w : World) (B : Nat) (hr : RP w B h p) (hB : B ≤ w.heap.size) (hlen : Lens p) :
    Calls Try.prog 37 #[.agg #[.slice h.fA p.funcs.length h.fc, .int .i64 p.mutexes, .slice h.cA p.conds.length h.cc, .slice h.sA p.semas.length h.sc, .slice h.hA p.chans.length h.hc, .slice h.xA p.choices.length h.xc, .int .i64 p.threads]] w
      fun e w' => e = .returned (.bool (choicesB p)) ∧ Below w.heap.size w w' := by
  have l5 := hlen.chans
  have l6 := hlen.choices
  obtain ⟨fA, fc, cA, cc, sA, sc, hA, hc, xA, xc⟩ := h
  by_cases h8 : 8 < p.choices.length
  · have HV : Hid (choicesB p = false) := by show _ = _; simp [choicesB]; omega
    go_enter Try.func37, Try.ntmps37
    go_wp2_with fail
    go_ret
    exact ⟨ret_bool HV.out.symm, (Below.refl _ _).alloc (Nat.le_refl _) _⟩
  · have HL : Hid (choicesB p = p.choices.all (choiceC p.chans.length)) := by show _ = _; simp [choicesB]; omega
    have hW : ∀ W, W = (w.alloc (.cells #[.slice fA p.funcs.length fc, .int .i64 p.mutexes, .slice cA p.conds.length cc, .slice sA p.semas.length sc, .slice hA p.chans.length hc, .slice xA p.choices.length xc, .int .i64 p.threads] 26)).alloc (.cells #[.int .i64 (p.chans.length : Int)] 3) →
        Below w.heap.size w W ∧ RL W B xA p.choices.length xc p.choices ∧ Blk W (w.heap.size + 1) 3 #[.int .i64 (p.chans.length : Int)] ∧ W.cell? ⟨w.heap.size, 5, none⟩ = some (.slice xA p.choices.length xc) := by
      rintro W rfl
      have hb : Below w.heap.size w ((w.alloc (.cells #[.slice fA p.funcs.length fc, .int .i64 p.mutexes, .slice cA p.conds.length cc, .slice sA p.semas.length sc, .slice hA p.chans.length hc, .slice xA p.choices.length xc, .int .i64 p.threads] 26)).alloc (.cells #[.int .i64 (p.chans.length : Int)] 3)) := ((Below.refl _ _).alloc (Nat.le_refl _) _).alloc (by simp) _
      exact ⟨hb, (hr.below (hb.mono hB)).choices, by simpa using Blk.new (w.alloc (.cells #[.slice fA p.funcs.length fc, .int .i64 p.mutexes, .slice cA p.conds.length cc, .slice sA p.semas.length sc, .slice hA p.chans.length hc, .slice xA p.choices.length xc, .int .i64 p.threads] 26)) 3 _,
        (((Blk.new w 26 _).alloc _).cell 5).trans rfl⟩
    have HW := Lib.hid hW
    have HLEN := Lib.hid hlen.each
    clear hr hlen hW
    go_enter Try.func37, Try.ntmps37
    go_wp2_with fail
    refine (below_any _ _).mono ?_
    rintro e w' ⟨rfl, rfl⟩
    generalize hW1 : World.alloc (World.alloc w _) _ = W1
    obtain ⟨hbel, hrl, hblk, p5⟩ := HW.out W1 hW1.symm
    clear hW1
    have HBEL := Lib.hid hbel
    have HRL := Lib.hid hrl
    have HBLK := Lib.hid hblk
    clear hbel hrl hblk HW
    go_wp2_with fail
    go_loop [19] (fun s => ∃ k : Nat, k ≤ p.choices.length ∧ s = .int .i64 (k : Int) ∧ Hid ((p.choices.take k).all (choiceC p.chans.length) = true)) (fun s => p.choices.length - (intOf s).toNat)
    case atStart => exact ⟨0, by omega, rfl, rfl⟩
    case round =>
      obtain ⟨k, hk, rfl, hall⟩ := hrel
      by_cases hlt : k < p.choices.length
      · obtain ⟨ad, t, rfl, hab, htl, hcell, hrt⟩ := HRL.out.at_ hlt
        have hlt2 := HLEN.out _ (List.mem_of_getElem? htl)
        have HTL := Lib.hid htl
        have HRT := Lib.hid hrt
        have HAL := Lib.hid (all_take' (P := choiceC p.chans.length) htl)
        have HNO : Hid (choiceC p.chans.length t.l = false → p.choices.all (choiceC p.chans.length) = false) := fun hf => by
          rw [List.all_eq_false]
          exact ⟨_, List.mem_of_getElem? HTL.out, by simp [hf]⟩
        clear htl
        by_cases h0 : t.l.length = 0
        · have hb0 : ((t.l.length : Int) == 0) = true := by rw [h0]; rfl
          have HCF : Hid (choiceC p.chans.length t.l = false) := by
            show _ = _
            rw [List.eq_nil_of_length_eq_zero h0]
            rfl
          clear h0
          go_wp2_with fail
          go_ret
          exact ⟨ret_bool (by rw [HL.out, HNO.out HCF.out]), HBEL.out⟩
        · have hb0 : ((t.l.length : Int) == 0) = false := by rw [beq_eq_false_iff_ne]; omega
          have HCC : Hid (choiceC p.chans.length t.l = (listB t.l p.chans.length && nodupB t.l)) := by
            show _ = _
            unfold choiceC
            rcases hl : t.l with _ | ⟨y, r⟩
            · rw [hl] at h0; simp at h0
            · rfl
          clear h0
          go_wp2_with fail
          refine (mayList_any t.l p.chans.length _ W1 B _ _ _ HRT.out (by omega) HBLK.out).mono ?_
          rintro e w' ⟨rfl, rfl⟩
          generalize hlb : listB t.l p.chans.length = lb
          cases lb
          · have HCF : Hid (choiceC p.chans.length t.l = false) := by show _ = _; rw [HCC.out, hlb]; rfl
            clear hlb
            go_wp2_with fail
            go_ret
            exact ⟨ret_bool (by rw [HL.out, HNO.out HCF.out]), HBEL.out⟩
          · have HCN : Hid (choiceC p.chans.length t.l = nodupB t.l) := by show _ = _; rw [HCC.out, hlb]; rfl
            clear hlb
            go_wp2_with fail
            go_loop [34] (fun s => ∃ j : Nat, j ≤ t.l.length ∧ s = .int .i64 (j : Int) ∧ Hid (nodupB (t.l.take j) = true)) (fun s => t.l.length - (intOf s).toNat)
            case atStart => exact ⟨0, by omega, rfl, rfl⟩
            case round =>
              obtain ⟨j, hj, rfl, hnd⟩ := hrel
              by_cases hjl : j < t.l.length
              · obtain ⟨ad2, x, htA, hab2, hx, hcx⟩ := HRT.out.at_ hjl
                have HRTK := Lib.hid (HRT.out.take (k := j) (by omega))
                have HNT := Lib.hid (nodup_take hx)
                clear hx
                obtain ⟨tl, tA, tc⟩ := t
                simp only at htA
                subst htA
                have hjc : j ≤ tc := by have := HRT.out.2.1; simp only at this; simp only at hjl; omega
                go_wp2_with fail
                refine (contains_any _ x _ B _ _ _ HRTK.out (by omega)).mono ?_
                rintro e w' ⟨rfl, rfl⟩
                generalize hcb : (tl.take j).contains x = cb
                cases cb
                · have HND2 : Hid (nodupB (tl.take (j + 1)) = true) := by show _ = _; rw [HNT.out, hnd.out, hcb]; rfl
                  clear hcb
                  go_wp2_with fail
                  exact ⟨⟨j + 1, by omega, by go_num, HND2⟩, by simp [intOf]; omega⟩
                · have HCF : Hid (choiceC p.chans.length tl = false) := by
                    show _ = _
                    rw [HCN.out]
                    exact nodup_false (k := j + 1) (by rw [HNT.out, hcb]; simp)
                  clear hcb
                  go_wp2_with fail
                  go_ret
                  exact ⟨ret_bool (by rw [HL.out, HNO.out HCF.out]), HBEL.out⟩
              · have HCT : Hid (choiceC p.chans.length t.l = true) := by
                  show _ = _
                  rw [HCN.out]
                  have := hnd.out
                  rwa [List.take_of_length_le (by omega)] at this
                go_wp2_with fail
                exact ⟨⟨k + 1, by omega, by go_num, by show _ = _; rw [HAL.out, hall.out, HCT.out]; rfl⟩, by simp [intOf]; omega⟩
      · have hf : p.choices.all (choiceC p.chans.length) = true := by have := hall.out; rwa [List.take_of_length_le (by omega)] at this
        have HFL := Lib.hid hf
        clear hf
        go_wp2_with fail
        go_ret
        exact ⟨ret_bool (by rw [HL.out, HFL.out]), HBEL.out⟩
end Go.Proofs.Ytmjbfobjndiecaa
