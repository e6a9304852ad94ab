
/-
  The document's calls: Due, Set.
-/
import Derived.Test.YtglgficmfpecgaaHpW
set_option linter.unusedVariables false
set_option linter.unusedSimpArgs false
namespace Go.Proofs.Ytglgficmfpecgaa
open Go.RowKit Plain

theorem Reads.take_tm {w : World} {B n m : Nat} {A : Option Addr} {r : List Tm} (h : Reads w B 2 A n (flat r)) (hn : r.length = n) (hm : m ≤ n) : Reads w B 2 A m (flat (r.take m)) := by
  refine ⟨by rw [flat_length]; simp; omega, fun h0 => ?_⟩
  obtain ⟨ad, e, hb, hc⟩ := h.2 (by omega)
  refine ⟨ad, e, hb, fun j u hj => hc j u ?_⟩
  rw [flat_take, List.getElem?_take] at hj
  split at hj
  · exact hj
  · cases hj
theorem Reads.drop_tm {w : World} {B n m c : Nat} {A : Option Addr} {r : List Tm} (h : Reads w B 2 A n (flat r)) (hm : m ≤ n) (hc : n ≤ c) : Reads w B 2 (if c = m then A else A.map (·.add (m * 2))) (n - m) (flat (r.drop m)) := by
  rw [flat_drop]
  exact h.cut hm hc
theorem posR_stop {l : List Tm} {t : Tm} {k : Nat} (h : ¬ ahd t (gt l k)) : posR l t (k + 1) = k + 1 := by rw [posR, if_neg h]
theorem posR_go {l : List Tm} {t : Tm} {k : Nat} (h : ahd t (gt l k)) : posR l t (k + 1) = posR l t k := by rw [posR, if_pos h]
theorem RowT.empty (w : World) (A : Option Addr) (c : Nat) : RowT w (.slice A 0 c) [] := ⟨A, c, rfl, by simp, fun h => by simp at h⟩
section
variable {w : World} {v : Value} {r : List Tm}
set_option maxRecDepth 100000 in
set_option maxHeartbeats 4000000 in
theorem due_r (now : Int) (hr : RowT w v r) (hs : r.length ≤ 10000) : Calls Try.prog 17 #[v, .int .i64 now] w fun e w' => ∃ v' u, e = .returned (.tuple #[v', u]) ∧ RowT w' v' (r.drop (dueN r now)) ∧ OwnI w' w.heap.size u ((r.take (dueN r now)).map (·.1)) ∧ Below w.heap.size w w' := by
  obtain ⟨i0, hi0, hz0, hz1, hz2⟩ := info_parts info_int
  obtain ⟨A, c, rfl, hlc⟩ := hr.len
  have HR := Lib.hid hr
  obtain ⟨len, hlen⟩ : ∃ len, r.length = len := ⟨_, rfl⟩
  have HLEN := Lib.hid hlen
  rw [hlen] at hlc hs ⊢
  clear hr hlen
  go_enter Try.func17, Try.ntmps17
  go_wp2_with fail
  go_loopw [6, 7] (fun s3 s4 wr => ∃ (i : Nat) (A3 : Option Addr) (c3 : Nat) (L : List Int), i ≤ len ∧ s4 = .int .i64 (i : Int) ∧ s3 = .slice A3 i c3 ∧ i ≤ c3 ∧ Hid (L = (r.take i).map (·.1) ∧ ∀ t ∈ r.take i, t.2 ≤ now) ∧ Hid (wr.ownsRow w.heap.size 3 1 s3 i (L.map EnI)) ∧ Hid (Below w.heap.size w wr)) (fun _ s4 _ => len - (intOf s4).toNat)
  case atStart => exact ⟨0, none, 0, [], by omega, rfl, rfl, by omega, Lib.hid ⟨by simp, by simp⟩, Lib.hid (World.ownsRow_nil _ _ _ _), Lib.hid (Below.refl _ _)⟩
  case round =>
    obtain ⟨i, A3, c3, L, hi, rfl, rfl, hc3, hL, ho, hb⟩ := hrel
    have hrw := HR.out.below hb.out (Nat.le_refl _)
    by_cases hlt : i < len
    · obtain ⟨g, o, c', hv, _, hg, c0, c1⟩ := hrw.cells (show i < r.length by rw [HLEN.out]; exact hlt)
      injection hv with v1 v2 v3
      subst v1 v3
      obtain ⟨t, ht⟩ : ∃ t, t = gt r i := ⟨_, rfl⟩
      rw [← ht] at c0 c1
      obtain ⟨x, y⟩ := t
      have HT := Lib.hid ht
      have hlt' : (i : Int) < (len : Int) := by omega
      have hri := gt_some (show i < r.length by rw [HLEN.out]; exact hlt)
      rw [← ht] at hri
      by_cases hy : y ≤ now
      · have hro : (wr.alloc (.cells #[.int .i64 x] 3)).ownsRow w.heap.size 3 1 (.slice A3 i c3) i (L.map EnI) := ((Fr.refl (fun _ => False) wr).alloc _).own ho.out (fun _ _ h => h)
        have h1c : ∀ u ∈ [(Value.int .i64 x)], u.oneCell' = true := by simp [Value.oneCell']
        have hb1 : i + 1 ≤ maxLen := by unfold maxLen; omega
        have hb2 : (i + 1) * 8 ≤ 140737488355328 := by omega
        have hb3 : w.heap.size ≤ (wr.alloc (.cells #[.int .i64 x] 3)).heap.size := by have := hb.out.size; simp; omega
        have HRO := Lib.hid hro; have HRD := Lib.hid (reads_one_int wr x 3); have H1C := Lib.hid h1c; have HB1 := Lib.hid hb1; have HB2 := Lib.hid hb2; have HB3 := Lib.hid hb3
        have HRI := Lib.hid hri
        clear hrw ht hro h1c hb1 hb2 hb3 hri
        go_wp2_with (at_builtin; go_must (refine wpList_append_any _ rfl (.tmp 21) (.tmp 27) _ rfl w.heap.size 3 i0 _ 1 8 Try.underlying32 hi0 hz0 hz1 hz2 rfl (by omega) _ i (L.map EnI) rfl HRO.out (wr.heap.size + 1) (some ⟨wr.heap.size, 0, none⟩) 1 1 _ rfl HRD.out H1C.out HB1.out HB2.out HB3.out ?_))
        intro v' w1 hr1 hg1 hv1
        have hbb : Below w.heap.size w w1 := (hb.out.alloc hb.out.size _).grown hg1 (Nat.le_trans hb.out.size (by simp)) (own_base HRO.out)
        have hL2 : L ++ [x] = (r.take (i + 1)).map (·.1) ∧ ∀ t ∈ r.take (i + 1), t.2 ≤ now := by
          rw [List.take_add_one, HRI.out, hL.out.1]
          refine ⟨by simp, fun t ht => ?_⟩
          rcases List.mem_append.1 ht with ht | ht
          · exact hL.out.2 t ht
          · simp at ht
            subst ht
            exact hy
        have hr2 : w1.ownsRow w.heap.size 3 1 v' (i + 1) ((L ++ [x]).map EnI) := by simpa using hr1
        have hsh : ∃ A' c', v' = .slice A' (i + 1) c' ∧ i + 1 ≤ c' := by
          rcases hr2.2 with ⟨_, h0⟩ | ⟨g', cap, cur, e, _, _, hcap, _⟩
          · omega
          · exact ⟨_, cap, e, hcap⟩
        obtain ⟨A', c', rfl, hc'⟩ := hsh
        have HBB := Lib.hid hbb; have HR2 := Lib.hid hr2; have HL2 := Lib.hid hL2
        clear hr1 hg1 hv1 hbb hr2 hL2 HRO HRD
        go_wp2_with fail
        exact ⟨⟨i + 1, A', c', L ++ [x], by omega, by go_num, rfl, hc', HL2, HR2, HBB⟩, by simp [intOf]; omega⟩
      · have hdn : dueN r now = i := by
          have h1 : r = r.take i ++ r.drop i := (List.take_append_drop i r).symm
          rw [h1]
          rw [dueN_app hL.out.2 (fun z r' e => ?_)]
          · simp
            rw [HLEN.out]
            omega
          · rw [List.drop_eq_getElem_cons (by rw [HLEN.out]; exact hlt)] at e
            injection e with e1 e2
            rw [List.getElem?_eq_getElem (by rw [HLEN.out]; exact hlt)] at hri
            injection hri with hri
            rw [← e1, hri]
            exact hy
        have HDN := Lib.hid hdn; have HRW := Lib.hid hrw
        clear hrw ht hri hdn
        go_wp2_with fail
        go_ret2
        have hd := HRW.out
        refine ⟨_, _, rfl, ?_, ?_, hb.out⟩
        · rw [HDN.out]
          have := hd.drop (n := i) (by rw [HLEN.out]; omega)
          rw [HLEN.out, if_neg (by omega)] at this
          simpa [Addr.add_lit] using this
        · rw [HDN.out, ← List.map_take, ← hL.out.1]
          have hl2 : L.length = i := by rw [hL.out.1]; simp; rw [HLEN.out]; omega
          unfold OwnI
          rw [hl2]
          exact ho.out
    · have hie : i = len := by omega
      subst hie
      have hta : r.take i = r := List.take_of_length_le (by rw [HLEN.out]; exact Nat.le_refl _)
      have hdn : dueN r now = i := by
        have h2 := dueN_app (d := r) (rest := []) (now := now) (by rw [← hta]; exact hL.out.2) (fun z r' e => by cases e)
        rw [List.append_nil] at h2
        rw [h2, HLEN.out]
      have HDN := Lib.hid hdn; have HRW := Lib.hid hrw
      clear hrw hdn hta
      have hde : r.drop i = [] := List.drop_of_length_le (by rw [HLEN.out]; exact Nat.le_refl _)
      have HDE := Lib.hid hde
      clear hde
      go_wp2_with fail
      all_goals
        go_ret2
        refine ⟨_, _, rfl, ?_, ?_, hb.out⟩
        · rw [HDN.out, HDE.out]
          exact RowT.empty _ _ _
        · rw [HDN.out, ← List.map_take, ← hL.out.1]
          have hl2 : L.length = i := by rw [hL.out.1]; simp; rw [HLEN.out]; omega
          unfold OwnI
          rw [hl2]
          exact ho.out

set_option maxRecDepth 100000 in
set_option maxHeartbeats 8000000 in
theorem set_r (k a : Int) (hr : RowT w v r) (hs : r.length ≤ 10000) : Calls Try.prog 21 #[v, .int .i64 k, .int .i64 a] w fun e w' => ∃ v', e = .returned (.tuple #[v', .bool (hasR r k)]) ∧ OwnT w' w.heap.size v' (setR r k a) ∧ Below w.heap.size w w' := by
  obtain ⟨i0, hi0, hz0, hz1, hz2⟩ := info_parts info_doc
  have hcc := cancel_r k hr hs
  have hrl := cancelR_len r k
  obtain ⟨L, hL⟩ : ∃ L, L = cancelR r k := ⟨_, rfl⟩
  have hsv : setR r k a = insR L (k, a) := by rw [hL]; rfl
  rw [← hL] at hcc hrl
  rw [hsv]
  have HC := Lib.hid hcc
  obtain ⟨bb, hbb⟩ : ∃ b, b = hasR r k := ⟨_, rfl⟩
  rw [← hbb] at HC ⊢
  have hln : L.length ≤ 10000 := by omega
  clear hcc hL hsv hbb hr hrl hs
  go_enter Try.func21, Try.ntmps21
  go_wp2_with fail
  refine HC.out.mono ?_
  rintro e w1 ⟨v', rfl, ho, hb1⟩
  have hrow := RowT.of_own ho
  obtain ⟨A, c, rfl, hlc⟩ := hrow.len
  obtain ⟨m, hm⟩ : ∃ m, L.length = m := ⟨_, rfl⟩
  have HM := Lib.hid hm; have HROW := Lib.hid hrow; have HB1 := Lib.hid hb1
  rw [hm] at hlc hln ⊢
  clear ho hrow hb1 hm HC
  go_wp2_with fail
  go_loopw [10] (fun s wr => ∃ p : Nat, p ≤ m ∧ s = .int .i64 (p : Int) ∧ wr = w1 ∧ Hid (posR L (k, a) p = posR L (k, a) m)) (fun s _ => (intOf s).toNat)
  case atStart => exact ⟨m, Nat.le_refl _, rfl, rfl, Lib.hid rfl⟩
  case round =>
    obtain ⟨p, hp, rfl, rfl, hpo⟩ := hrel
    --SET
    --SET
    --SET
    --SET
    --SET
    --SET
    have hstop : posR L (k, a) p = p → insR L (k, a) = L.take p ++ (k, a) :: L.drop p := fun h2 => by
      unfold insR
      rw [HM.out, ← hpo.out, h2]
    by_cases hp0 : 0 < p
    · obtain ⟨q, hq⟩ : ∃ q, p = q + 1 := ⟨p - 1, by omega⟩
      obtain ⟨g, o, c', hv, _, hg, c0, c1⟩ := HROW.out.cells (show q < L.length by rw [HM.out]; omega)
      injection hv with v1 v2 v3
      subst v1 v3
      obtain ⟨t, ht⟩ : ∃ t, t = gt L q := ⟨_, rfl⟩
      rw [← ht] at c0 c1
      obtain ⟨x1, x2⟩ := t
      have hgo : ahd (k, a) (x1, x2) → posR L (k, a) q = posR L (k, a) m := fun h => by
        rw [← hpo.out, hq, posR_go (by rw [← ht]; exact h)]
      have hst : ¬ ahd (k, a) (x1, x2) → posR L (k, a) p = p := fun h => by rw [hq]; exact posR_stop (by rw [← ht]; exact h)
      have HGO := Lib.hid hgo; have HST := Lib.hid hst; have HSTOP := Lib.hid hstop; have HQ := Lib.hid hq
      have hw1 : IntKind.i64.wrap ((p : Int) - 1) = (q : Int) := by rw [IntWalk.i64_in _ (by omega)]; omega
      have hqm : (q : Int) < (m : Int) := by omega
      have hp0' : (0 : Int) < (p : Int) := by omega
      clear hgo hst hstop ht hpo hq
      by_cases h1 : a < x2
      · go_wp2_with fail
        exact ⟨⟨q, by have := HQ.out; omega, by go_num, by simp, Lib.hid (HGO.out (.inl h1))⟩, by have := HQ.out; simp [intOf]; omega⟩
      · by_cases h2 : a = x2
        · by_cases h3 : k < x1
          · subst h2
            go_wp2_with fail
            exact ⟨⟨q, by have := HQ.out; omega, by go_num, by simp, Lib.hid (HGO.out (.inr ⟨rfl, h3⟩))⟩, by have := HQ.out; simp [intOf]; omega⟩
          · subst h2
            have HIN := Lib.hid (HSTOP.out (HST.out (by unfold ahd; simp; omega)))
            have hr1 := (HROW.out.reads)
            obtain ⟨A', c', e', _, hrd⟩ := hr1
            injection e' with e1 e2 e3
            subst e1 e3
            rw [HM.out] at hrd
            have hrd1 := hrd.take_tm HM.out hp
            have hrd3 := hrd.drop_tm (m := p) hp hlc
            obtain ⟨A3, hA3⟩ : ∃ A3, (if c = p then (some ⟨g, o, none⟩ : Option Addr) else some ⟨g, o + p * 2, none⟩) = A3 := ⟨_, rfl⟩
            have hrd3 : Reads wr wr.heap.size 2 A3 (m - p) (flat (L.drop p)) := by
              rw [← hA3]
              first
                | exact hrd3
                | simpa [Addr.add_lit] using hrd3
            obtain ⟨F1, hF1⟩ : ∃ F, F = flat (L.take p) := ⟨_, rfl⟩
            obtain ⟨F2, hF2⟩ : ∃ F, F = flat (L.drop p) := ⟨_, rfl⟩
            have ho1 : ∀ u ∈ F1, u.oneCell' = true := by rw [hF1]; exact flat_one
            have ho2 : ∀ u ∈ F2, u.oneCell' = true := by rw [hF2]; exact flat_one
            rw [← hF1] at hrd1
            rw [← hF2] at hrd3
            have HF1 := Lib.hid hF1; have HF2 := Lib.hid hF2; have HO1 := Lib.hid ho1; have HO2 := Lib.hid ho2
            clear hF1 hF2 ho1 ho2
            have HRD1 := Lib.hid hrd1; have HRD3 := Lib.hid hrd3; have HA3 := Lib.hid hA3
            have hb1 : 0 + p ≤ maxLen := by unfold maxLen; omega
            have hb2 : (0 + p) * 16 ≤ 140737488355328 := by omega
            have HB11 := Lib.hid hb1; have HB12 := Lib.hid hb2
            have hsz1 := HB1.out.size
            clear hrd hrd1 hrd3 hb1 hb2
            have hpc : p ≤ c := by omega
            go_wp2_with (at_builtin; go_must (refine wpList_append_any _ rfl (.tmp 54) (.tmp 57) _ rfl w.heap.size 38 i0 _ 2 16 Try.underlying25 hi0 hz0 hz1 hz2 rfl (by omega) _ 0 [] rfl (World.ownsRow_nil _ _ _ _) wr.heap.size (some ⟨g, o, none⟩) p c F1 rfl HRD1.out HO1.out HB11.out HB12.out hsz1 ?_))
            intro v1 w2 hr1 hg1 hv1
            have hb2 : Below wr.heap.size wr w2 := (Below.refl _ wr).grown hg1 (Nat.le_refl _) (fun g hg => by simp [Value.ownBlock] at hg)
            have hbw2 : Below w.heap.size w w2 := HB1.out.trans (hb2.mono hsz1)
            have hr1' : w2.ownsRow w.heap.size 38 2 v1 p F1 := by simpa using hr1
            have hro2 : (w2.alloc (.cells #[.int .i64 k, .int .i64 a] 38)).ownsRow w.heap.size 38 2 v1 p F1 := ((Fr.refl (fun _ => False) w2).alloc _).own hr1' (fun _ _ h => h)
            have h1c : ∀ u ∈ [(Value.int .i64 k), .int .i64 a], u.oneCell' = true := by simp [Value.oneCell']
            have hb21 : p + 1 ≤ maxLen := by unfold maxLen; omega
            have hb22 : (p + 1) * 16 ≤ 140737488355328 := by omega
            have hb23 : w.heap.size ≤ (w2.alloc (.cells #[.int .i64 k, .int .i64 a] 38)).heap.size := by have := hbw2.size; simp; omega
            have HRO2 := Lib.hid hro2; have HRDT := Lib.hid (reads_tm w2 (k, a) 38); have H1C := Lib.hid h1c; have HB21 := Lib.hid hb21; have HB22 := Lib.hid hb22; have HB23 := Lib.hid hb23
            have HBW2 := Lib.hid hbw2; have HB2 := Lib.hid hb2
            have hv1n : v1.ownBlock = (Value.slice none 0 0).ownBlock ∨ v1.ownBlock = some wr.heap.size := hv1
            clear hr1 hr1' hg1 hv1 hb2 hbw2 hro2 h1c hb21 hb22 hb23
            go_wp2_with (at_builtin; go_must (refine wpList_append_any _ rfl (.tmp 59) (.tmp 63) _ rfl w.heap.size 38 i0 _ 2 16 Try.underlying25 hi0 hz0 hz1 hz2 rfl (by omega) _ p F1 rfl HRO2.out (w2.heap.size + 1) (some ⟨w2.heap.size, 0, none⟩) 1 1 _ rfl HRDT.out H1C.out HB21.out HB22.out HB23.out ?_))
            intro v2 w3 hr2 hg2 hv2
            have hb3 : Below w.heap.size w w3 := (HBW2.out.alloc HBW2.out.size _).grown hg2 (Nat.le_trans HBW2.out.size (by simp)) (own_base HRO2.out)
            have hb3' : Below wr.heap.size wr w3 := by
              refine (HB2.out.alloc HB2.out.size _).grown hg2 (Nat.le_trans HB2.out.size (by simp)) (fun g hg => ?_)
              rcases hv1n with e | e
              · rw [e] at hg; simp [Value.ownBlock] at hg
              · rw [e] at hg; injection hg with hg; omega
            have hrd3 : Reads w3 wr.heap.size 2 A3 (m - p) F2 := HRD3.out.below hb3'
            have hb31 : p + 1 + (m - p) ≤ maxLen := by unfold maxLen; omega
            have hb32 : (p + 1 + (m - p)) * 16 ≤ 140737488355328 := by omega
            obtain ⟨F3, hF3⟩ : ∃ F, F = F1 ++ [Value.int .i64 k, .int .i64 a] := ⟨_, rfl⟩
            have hr2' : w3.ownsRow w.heap.size 38 2 v2 (p + 1) F3 := by rw [hF3]; exact hr2
            have HF3 := Lib.hid hF3
            have HR2 := Lib.hid hr2'; have HRD33 := Lib.hid hrd3; have HB31 := Lib.hid hb31; have HB32 := Lib.hid hb32; have HB3 := Lib.hid hb3
            have hb33 := hb3.size
            clear hr2 hr2' hF3 hg2 hv2 hb3 hb3' hrd3 hb31 hb32 HRO2 HRD3
            go_wp2_with (at_builtin; go_must (refine wpList_append_any _ rfl (.tmp 65) (.tmp 68) _ rfl w.heap.size 38 i0 _ 2 16 Try.underlying25 hi0 hz0 hz1 hz2 rfl (by omega) _ (p + 1) F3 rfl HR2.out wr.heap.size A3 (m - p) (c - p) F2 (by first | rfl | (rw [← HA3.out]; rfl)) HRD33.out HO2.out HB31.out HB32.out hb33 ?_))
            intro v3 w4 hr3 hg3 hv3
            have hb4 : Below w.heap.size w w4 := HB3.out.grown hg3 HB3.out.size (own_base HR2.out)
            have hfin : OwnT w4 w.heap.size v3 (insR L (k, a)) := by
              rw [HIN.out]
              unfold OwnT
              rw [flat_append]
              have e : (L.take p ++ (k, a) :: L.drop p).length = p + 1 + (m - p) := by have := HM.out; simp; omega
              rw [e]
              have := hr3
              rw [HF3.out, HF1.out, HF2.out] at this
              simpa [flat] using this
            have HFIN := Lib.hid hfin; have HB4 := Lib.hid hb4
            clear hr3 hg3 hv3 hb4 hfin HR2
            go_wp2_with fail
            go_ret2
            exact ⟨_, rfl, HFIN.out, HB4.out⟩
        · have HIN := Lib.hid (HSTOP.out (HST.out (by unfold ahd; simp; omega)))
          have h2' : (a == x2) = false := by rw [beq_eq_false_iff_ne]; exact h2
          have hr1 := (HROW.out.reads)
          obtain ⟨A', c', e', _, hrd⟩ := hr1
          injection e' with e1 e2 e3
          subst e1 e3
          rw [HM.out] at hrd
          have hrd1 := hrd.take_tm HM.out hp
          have hrd3 := hrd.drop_tm (m := p) hp hlc
          obtain ⟨A3, hA3⟩ : ∃ A3, (if c = p then (some ⟨g, o, none⟩ : Option Addr) else some ⟨g, o + p * 2, none⟩) = A3 := ⟨_, rfl⟩
          have hrd3 : Reads wr wr.heap.size 2 A3 (m - p) (flat (L.drop p)) := by
            rw [← hA3]
            first
              | exact hrd3
              | simpa [Addr.add_lit] using hrd3
          obtain ⟨F1, hF1⟩ : ∃ F, F = flat (L.take p) := ⟨_, rfl⟩
          obtain ⟨F2, hF2⟩ : ∃ F, F = flat (L.drop p) := ⟨_, rfl⟩
          have ho1 : ∀ u ∈ F1, u.oneCell' = true := by rw [hF1]; exact flat_one
          have ho2 : ∀ u ∈ F2, u.oneCell' = true := by rw [hF2]; exact flat_one
          rw [← hF1] at hrd1
          rw [← hF2] at hrd3
          have HF1 := Lib.hid hF1; have HF2 := Lib.hid hF2; have HO1 := Lib.hid ho1; have HO2 := Lib.hid ho2
          clear hF1 hF2 ho1 ho2
          have HRD1 := Lib.hid hrd1; have HRD3 := Lib.hid hrd3; have HA3 := Lib.hid hA3
          have hb1 : 0 + p ≤ maxLen := by unfold maxLen; omega
          have hb2 : (0 + p) * 16 ≤ 140737488355328 := by omega
          have HB11 := Lib.hid hb1; have HB12 := Lib.hid hb2
          have hsz1 := HB1.out.size
          clear hrd hrd1 hrd3 hb1 hb2
          have hpc : p ≤ c := by omega
          go_wp2_with (at_builtin; go_must (refine wpList_append_any _ rfl (.tmp 54) (.tmp 57) _ rfl w.heap.size 38 i0 _ 2 16 Try.underlying25 hi0 hz0 hz1 hz2 rfl (by omega) _ 0 [] rfl (World.ownsRow_nil _ _ _ _) wr.heap.size (some ⟨g, o, none⟩) p c F1 rfl HRD1.out HO1.out HB11.out HB12.out hsz1 ?_))
          intro v1 w2 hr1 hg1 hv1
          have hb2 : Below wr.heap.size wr w2 := (Below.refl _ wr).grown hg1 (Nat.le_refl _) (fun g hg => by simp [Value.ownBlock] at hg)
          have hbw2 : Below w.heap.size w w2 := HB1.out.trans (hb2.mono hsz1)
          have hr1' : w2.ownsRow w.heap.size 38 2 v1 p F1 := by simpa using hr1
          have hro2 : (w2.alloc (.cells #[.int .i64 k, .int .i64 a] 38)).ownsRow w.heap.size 38 2 v1 p F1 := ((Fr.refl (fun _ => False) w2).alloc _).own hr1' (fun _ _ h => h)
          have h1c : ∀ u ∈ [(Value.int .i64 k), .int .i64 a], u.oneCell' = true := by simp [Value.oneCell']
          have hb21 : p + 1 ≤ maxLen := by unfold maxLen; omega
          have hb22 : (p + 1) * 16 ≤ 140737488355328 := by omega
          have hb23 : w.heap.size ≤ (w2.alloc (.cells #[.int .i64 k, .int .i64 a] 38)).heap.size := by have := hbw2.size; simp; omega
          have HRO2 := Lib.hid hro2; have HRDT := Lib.hid (reads_tm w2 (k, a) 38); have H1C := Lib.hid h1c; have HB21 := Lib.hid hb21; have HB22 := Lib.hid hb22; have HB23 := Lib.hid hb23
          have HBW2 := Lib.hid hbw2; have HB2 := Lib.hid hb2
          have hv1n : v1.ownBlock = (Value.slice none 0 0).ownBlock ∨ v1.ownBlock = some wr.heap.size := hv1
          clear hr1 hr1' hg1 hv1 hb2 hbw2 hro2 h1c hb21 hb22 hb23
          go_wp2_with (at_builtin; go_must (refine wpList_append_any _ rfl (.tmp 59) (.tmp 63) _ rfl w.heap.size 38 i0 _ 2 16 Try.underlying25 hi0 hz0 hz1 hz2 rfl (by omega) _ p F1 rfl HRO2.out (w2.heap.size + 1) (some ⟨w2.heap.size, 0, none⟩) 1 1 _ rfl HRDT.out H1C.out HB21.out HB22.out HB23.out ?_))
          intro v2 w3 hr2 hg2 hv2
          have hb3 : Below w.heap.size w w3 := (HBW2.out.alloc HBW2.out.size _).grown hg2 (Nat.le_trans HBW2.out.size (by simp)) (own_base HRO2.out)
          have hb3' : Below wr.heap.size wr w3 := by
            refine (HB2.out.alloc HB2.out.size _).grown hg2 (Nat.le_trans HB2.out.size (by simp)) (fun g hg => ?_)
            rcases hv1n with e | e
            · rw [e] at hg; simp [Value.ownBlock] at hg
            · rw [e] at hg; injection hg with hg; omega
          have hrd3 : Reads w3 wr.heap.size 2 A3 (m - p) F2 := HRD3.out.below hb3'
          have hb31 : p + 1 + (m - p) ≤ maxLen := by unfold maxLen; omega
          have hb32 : (p + 1 + (m - p)) * 16 ≤ 140737488355328 := by omega
          obtain ⟨F3, hF3⟩ : ∃ F, F = F1 ++ [Value.int .i64 k, .int .i64 a] := ⟨_, rfl⟩
          have hr2' : w3.ownsRow w.heap.size 38 2 v2 (p + 1) F3 := by rw [hF3]; exact hr2
          have HF3 := Lib.hid hF3
          have HR2 := Lib.hid hr2'; have HRD33 := Lib.hid hrd3; have HB31 := Lib.hid hb31; have HB32 := Lib.hid hb32; have HB3 := Lib.hid hb3
          have hb33 := hb3.size
          clear hr2 hr2' hF3 hg2 hv2 hb3 hb3' hrd3 hb31 hb32 HRO2 HRD3
          go_wp2_with (at_builtin; go_must (refine wpList_append_any _ rfl (.tmp 65) (.tmp 68) _ rfl w.heap.size 38 i0 _ 2 16 Try.underlying25 hi0 hz0 hz1 hz2 rfl (by omega) _ (p + 1) F3 rfl HR2.out wr.heap.size A3 (m - p) (c - p) F2 (by first | rfl | (rw [← HA3.out]; rfl)) HRD33.out HO2.out HB31.out HB32.out hb33 ?_))
          intro v3 w4 hr3 hg3 hv3
          have hb4 : Below w.heap.size w w4 := HB3.out.grown hg3 HB3.out.size (own_base HR2.out)
          have hfin : OwnT w4 w.heap.size v3 (insR L (k, a)) := by
            rw [HIN.out]
            unfold OwnT
            rw [flat_append]
            have e : (L.take p ++ (k, a) :: L.drop p).length = p + 1 + (m - p) := by have := HM.out; simp; omega
            rw [e]
            have := hr3
            rw [HF3.out, HF1.out, HF2.out] at this
            simpa [flat] using this
          have HFIN := Lib.hid hfin; have HB4 := Lib.hid hb4
          clear hr3 hg3 hv3 hb4 hfin HR2
          go_wp2_with fail
          go_ret2
          exact ⟨_, rfl, HFIN.out, HB4.out⟩
    · have hpz : p = 0 := by omega
      have HIN := Lib.hid (hstop (by rw [hpz]; rfl))
      have hp0' : ¬ (0 : Int) < (p : Int) := by omega
      clear hstop hpo hpz
      have hr1 := (HROW.out.reads)
      obtain ⟨A', c', e', _, hrd⟩ := hr1
      injection e' with e1 e2 e3
      subst e1 e3
      rw [HM.out] at hrd
      have hrd1 := hrd.take_tm HM.out hp
      have hrd3 := hrd.drop_tm (m := p) hp hlc
      obtain ⟨A3, hA3⟩ : ∃ A3, (if c = p then A else A.map (fun x => x.add (p * 2))) = A3 := ⟨_, rfl⟩
      have hrd3 : Reads wr wr.heap.size 2 A3 (m - p) (flat (L.drop p)) := by
        rw [← hA3]
        first
          | exact hrd3
          | simpa [Addr.add_lit] using hrd3
      obtain ⟨F1, hF1⟩ : ∃ F, F = flat (L.take p) := ⟨_, rfl⟩
      obtain ⟨F2, hF2⟩ : ∃ F, F = flat (L.drop p) := ⟨_, rfl⟩
      have ho1 : ∀ u ∈ F1, u.oneCell' = true := by rw [hF1]; exact flat_one
      have ho2 : ∀ u ∈ F2, u.oneCell' = true := by rw [hF2]; exact flat_one
      rw [← hF1] at hrd1
      rw [← hF2] at hrd3
      have HF1 := Lib.hid hF1; have HF2 := Lib.hid hF2; have HO1 := Lib.hid ho1; have HO2 := Lib.hid ho2
      clear hF1 hF2 ho1 ho2
      have HRD1 := Lib.hid hrd1; have HRD3 := Lib.hid hrd3; have HA3 := Lib.hid hA3
      have hb1 : 0 + p ≤ maxLen := by unfold maxLen; omega
      have hb2 : (0 + p) * 16 ≤ 140737488355328 := by omega
      have HB11 := Lib.hid hb1; have HB12 := Lib.hid hb2
      have hsz1 := HB1.out.size
      clear hrd hrd1 hrd3 hb1 hb2
      have hpc : p ≤ c := by omega
      go_wp2_with (at_builtin; go_must (refine wpList_append_any _ rfl (.tmp 54) (.tmp 57) _ rfl w.heap.size 38 i0 _ 2 16 Try.underlying25 hi0 hz0 hz1 hz2 rfl (by omega) _ 0 [] rfl (World.ownsRow_nil _ _ _ _) wr.heap.size A p c F1 rfl HRD1.out HO1.out HB11.out HB12.out hsz1 ?_))
      intro v1 w2 hr1 hg1 hv1
      have hb2 : Below wr.heap.size wr w2 := (Below.refl _ wr).grown hg1 (Nat.le_refl _) (fun g hg => by simp [Value.ownBlock] at hg)
      have hbw2 : Below w.heap.size w w2 := HB1.out.trans (hb2.mono hsz1)
      have hr1' : w2.ownsRow w.heap.size 38 2 v1 p F1 := by simpa using hr1
      have hro2 : (w2.alloc (.cells #[.int .i64 k, .int .i64 a] 38)).ownsRow w.heap.size 38 2 v1 p F1 := ((Fr.refl (fun _ => False) w2).alloc _).own hr1' (fun _ _ h => h)
      have h1c : ∀ u ∈ [(Value.int .i64 k), .int .i64 a], u.oneCell' = true := by simp [Value.oneCell']
      have hb21 : p + 1 ≤ maxLen := by unfold maxLen; omega
      have hb22 : (p + 1) * 16 ≤ 140737488355328 := by omega
      have hb23 : w.heap.size ≤ (w2.alloc (.cells #[.int .i64 k, .int .i64 a] 38)).heap.size := by have := hbw2.size; simp; omega
      have HRO2 := Lib.hid hro2; have HRDT := Lib.hid (reads_tm w2 (k, a) 38); have H1C := Lib.hid h1c; have HB21 := Lib.hid hb21; have HB22 := Lib.hid hb22; have HB23 := Lib.hid hb23
      have HBW2 := Lib.hid hbw2; have HB2 := Lib.hid hb2
      have hv1n : v1.ownBlock = (Value.slice none 0 0).ownBlock ∨ v1.ownBlock = some wr.heap.size := hv1
      clear hr1 hr1' hg1 hv1 hb2 hbw2 hro2 h1c hb21 hb22 hb23
      go_wp2_with (at_builtin; go_must (refine wpList_append_any _ rfl (.tmp 59) (.tmp 63) _ rfl w.heap.size 38 i0 _ 2 16 Try.underlying25 hi0 hz0 hz1 hz2 rfl (by omega) _ p F1 rfl HRO2.out (w2.heap.size + 1) (some ⟨w2.heap.size, 0, none⟩) 1 1 _ rfl HRDT.out H1C.out HB21.out HB22.out HB23.out ?_))
      intro v2 w3 hr2 hg2 hv2
      have hb3 : Below w.heap.size w w3 := (HBW2.out.alloc HBW2.out.size _).grown hg2 (Nat.le_trans HBW2.out.size (by simp)) (own_base HRO2.out)
      have hb3' : Below wr.heap.size wr w3 := by
        refine (HB2.out.alloc HB2.out.size _).grown hg2 (Nat.le_trans HB2.out.size (by simp)) (fun g hg => ?_)
        rcases hv1n with e | e
        · rw [e] at hg; simp [Value.ownBlock] at hg
        · rw [e] at hg; injection hg with hg; omega
      have hrd3 : Reads w3 wr.heap.size 2 A3 (m - p) F2 := HRD3.out.below hb3'
      have hb31 : p + 1 + (m - p) ≤ maxLen := by unfold maxLen; omega
      have hb32 : (p + 1 + (m - p)) * 16 ≤ 140737488355328 := by omega
      obtain ⟨F3, hF3⟩ : ∃ F, F = F1 ++ [Value.int .i64 k, .int .i64 a] := ⟨_, rfl⟩
      have hr2' : w3.ownsRow w.heap.size 38 2 v2 (p + 1) F3 := by rw [hF3]; exact hr2
      have HF3 := Lib.hid hF3
      have HR2 := Lib.hid hr2'; have HRD33 := Lib.hid hrd3; have HB31 := Lib.hid hb31; have HB32 := Lib.hid hb32; have HB3 := Lib.hid hb3
      have hb33 := hb3.size
      clear hr2 hr2' hF3 hg2 hv2 hb3 hb3' hrd3 hb31 hb32 HRO2 HRD3
      go_wp2_with (at_builtin; go_must (refine wpList_append_any _ rfl (.tmp 65) (.tmp 68) _ rfl w.heap.size 38 i0 _ 2 16 Try.underlying25 hi0 hz0 hz1 hz2 rfl (by omega) _ (p + 1) F3 rfl HR2.out wr.heap.size A3 (m - p) (c - p) F2 (by first | rfl | (rw [← HA3.out]; rfl)) HRD33.out HO2.out HB31.out HB32.out hb33 ?_))
      intro v3 w4 hr3 hg3 hv3
      have hb4 : Below w.heap.size w w4 := HB3.out.grown hg3 HB3.out.size (own_base HR2.out)
      have hfin : OwnT w4 w.heap.size v3 (insR L (k, a)) := by
        rw [HIN.out]
        unfold OwnT
        rw [flat_append]
        have e : (L.take p ++ (k, a) :: L.drop p).length = p + 1 + (m - p) := by have := HM.out; simp; omega
        rw [e]
        have := hr3
        rw [HF3.out, HF1.out, HF2.out] at this
        simpa [flat] using this
      have HFIN := Lib.hid hfin; have HB4 := Lib.hid hb4
      clear hr3 hg3 hv3 hb4 hfin HR2
      go_wp2_with fail
      go_ret2
      exact ⟨_, rfl, HFIN.out, HB4.out⟩
end
end Go.Proofs.Ytglgficmfpecgaa
