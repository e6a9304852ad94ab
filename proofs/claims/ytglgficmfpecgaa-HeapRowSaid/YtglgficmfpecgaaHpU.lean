
/-
  A heap's calls: New, Len, Steps, First, At, Cancel, Set.
-/
import Derived.Test.YtglgficmfpecgaaHpT
set_option linter.unusedVariables false
set_option linter.unusedSimpArgs false
namespace Go.Proofs.Ytglgficmfpecgaa
open Go.RowKit Plain

section
variable {P : Program} {w : World} {kt et : TypeId} {ops : Array Oper} {rest : List Oper} {o : Oper} {a : Act} {Q : Exit → Act → World → Prop}
theorem wpList_lookup_yes (hg : o.guard = none) (m x : Operand) (t : TypeId) (hop : o.op = Op.lookup t m x true) (hm : P.underlying t = some (.map kt et)) (hk : P.underlying kt = some (.int .i64)) (hz : (zeroValue et).run P w = .ok (.int .i64 0) w)
    (b : Nat) (f : Int → Option Nat) (h : IsMI w b f) (k : Int) (i : Nat) (hf : f k = some i) (hm' : a.eval m = .map (some b)) (hx : a.eval x = .int .i64 k) (hK : wpList P ops Q rest (a.put o.dst (.tuple #[.int .i64 (i : Int), .bool true])) w) : wpList P ops Q (o :: rest) a w := by
  refine wpList_lookup_mi hg m x t hop hm hk hz b f h k hm' hx ?_
  unfold lookV
  rw [hf]
  exact hK
theorem wpList_lookup_no (hg : o.guard = none) (m x : Operand) (t : TypeId) (hop : o.op = Op.lookup t m x true) (hm : P.underlying t = some (.map kt et)) (hk : P.underlying kt = some (.int .i64)) (hz : (zeroValue et).run P w = .ok (.int .i64 0) w)
    (b : Nat) (f : Int → Option Nat) (h : IsMI w b f) (k : Int) (hf : f k = none) (hm' : a.eval m = .map (some b)) (hx : a.eval x = .int .i64 k) (hK : wpList P ops Q rest (a.put o.dst (.tuple #[.int .i64 0, .bool false])) w) : wpList P ops Q (o :: rest) a w := by
  refine wpList_lookup_mi hg m x t hop hm hk hz b f h k hm' hx ?_
  unfold lookV
  rw [hf]
  exact hK
end

theorem zero_int (w : World) : (zeroValue 3).run Try.prog w = .ok (.int .i64 0) w := by kernel_rfl
set_option maxHeartbeats 1000000 in
theorem new_hp (w : World) (B : Nat) (hB : B ≤ w.heap.size) : Calls Try.prog 8 #[] w fun e w' => ∃ h, e = .returned (.pointer (some ⟨h, 0, none⟩)) ∧ HP w' B h [] 0 ∧ Fx B w w' := by
  have hmk := fun W => run_makeMap (P := Try.prog) 53 W
  go_enter Try.func8, Try.ntmps8
  go_wp2_with fail
  go_ret
  refine ⟨_, rfl, ⟨w.heap.size, _, _, ⟨?_, World.ownsRow_nil _ _ _ _, ?_, by omega, hB⟩, Inv.nil⟩, ((Fx.refl B w).alloc hB _).alloc hB _⟩
  · have := Blk.new (w.alloc (.map #[] 0)) 56 #[.slice none 0 0, .map (some w.heap.size), .int .i64 (IntKind.i64.wrap ((0 : Nat) : Int))]
    simpa [IntKind.wrap_i64] using this
  · exact (IsMI.new w).fr ((Fr.refl (fun _ => False) _).alloc _) (fun h => h)

section
variable {w : World} {B h n : Nat} {ts : List Tm}
set_option maxHeartbeats 1000000 in
theorem len_hp (H : HP w B h ts n) : Calls Try.prog 10 #[.pointer (some ⟨h, 0, none⟩)] w fun e w' => e = .returned (.int .i64 (ts.length : Int)) ∧ w = w' := by
  obtain ⟨A, c, c0, _⟩ := H.head
  clear H
  go_enter Try.func10, Try.ntmps10
  go_wp2_with fail
  go_ret
  exact ⟨rfl, rfl⟩
set_option maxHeartbeats 1000000 in
theorem steps_hp (H : HP w B h ts n) : Calls Try.prog 16 #[.pointer (some ⟨h, 0, none⟩)] w fun e w' => e = .returned (.int .i64 (IntKind.i64.wrap (n : Int))) ∧ w = w' := by
  obtain ⟨m, v, f, H, _⟩ := H
  obtain ⟨_, _, c2, _⟩ := H.box_cells
  obtain ⟨x, hx⟩ : ∃ x, x = IntKind.i64.wrap (n : Int) := ⟨_, rfl⟩
  rw [← hx] at c2 ⊢
  clear H hx
  go_enter Try.func16, Try.ntmps16
  go_wp2_with fail
  go_ret
  exact ⟨rfl, rfl⟩
set_option maxHeartbeats 1000000 in
theorem first_no (H : HP w B h [] n) : Calls Try.prog 14 #[.pointer (some ⟨h, 0, none⟩)] w fun e w' => e = .returned (.tuple #[.int .i64 0, .int .i64 0, .bool false]) ∧ w = w' := by
  obtain ⟨A, c, c0, _⟩ := H.head
  rw [List.length_nil] at c0
  clear H
  go_enter Try.func14, Try.ntmps14
  go_wp2_with fail
  go_ret3
  exact ⟨rfl, rfl⟩
set_option maxHeartbeats 1000000 in
theorem first_yes (H : HP w B h ts n) (h0 : 0 < ts.length) (hs : ts.length ≤ 100000) : Calls Try.prog 14 #[.pointer (some ⟨h, 0, none⟩)] w fun e w' => e = .returned (.tuple #[.int .i64 (gt ts 0).1, .int .i64 (gt ts 0).2, .bool true]) ∧ ∃ k, w' = w.drewN k := by
  obtain ⟨m, v, f, H, _⟩ := H
  obtain ⟨g, c, rfl, hlc, hg, hgh, hgm, a0, a1, _⟩ := H.cells h0
  obtain ⟨k0, _⟩ := H.box_cells
  obtain ⟨x, hx⟩ : ∃ x, x = (gt ts 0).1 := ⟨_, rfl⟩
  obtain ⟨y, hy⟩ : ∃ x, x = (gt ts 0).2 := ⟨_, rfl⟩
  rw [← hx] at a0 ⊢
  rw [← hy] at a1 ⊢
  simp only [Nat.zero_mul, Nat.zero_add] at a0 a1
  have hn0 : ((ts.length : Int) == 0) = false := by rw [beq_eq_false_iff_ne]; omega
  have hn1 : ¬ (ts.length : Int) = 0 := by omega
  have hn2 : (0 : Int) < (ts.length : Int) := by omega
  clear H hx hy
  go_enter Try.func14, Try.ntmps14
  go_wp2_with fail
  go_quiet (fail)
  go_wp2_with fail
  go_ret3
  exact ⟨rfl, _, rfl⟩

set_option maxHeartbeats 1000000 in
theorem at_hp {r : List Tm} (k : Int) (H : HP w B h ts n) (hR : Rel ts r) (hs : ts.length ≤ 100000) : Calls Try.prog 24 #[.pointer (some ⟨h, 0, none⟩), .int .i64 k] w fun e w' => e = .returned (.tuple #[.int .i64 (atR r k).1, .bool (atR r k).2]) ∧ ∃ k, w' = w.drewN k := by
  obtain ⟨m, v, f, H, hv⟩ := H
  obtain ⟨k0, k1, _⟩ := H.box_cells
  have HM := Lib.hid H.mp
  have HK := Lib.hid (Try.underlying53)
  rcases hf : f k with _ | i
  · rw [hR.at_none hv hf]
    have HF := Lib.hid hf
    clear H hv hf hR
    go_enter Try.func24, Try.ntmps24
    go_wp2_with (with_reducible refine wpList_lookup_no rfl (.tmp 12) (.tmp 13) _ rfl HK.out Try.underlying3 (zero_int _) m f HM.out k HF.out rfl rfl ?_)
    go_ret2
    exact ⟨rfl, 0, rfl⟩
  · rw [hR.at_some hv hf]
    have hil : i < ts.length := by
      obtain ⟨a, ha⟩ := (hv k i).1 hf
      exact (List.getElem?_eq_some_iff.1 ha).1
    obtain ⟨g, c, rfl, hlc, hg, hgh, hgm, a0, a1, _⟩ := H.cells hil
    have hil' : (i : Int) < (ts.length : Int) := by omega
    obtain ⟨y, hy⟩ : ∃ x, x = (gt ts i).2 := ⟨_, rfl⟩
    rw [← hy] at a1 ⊢
    have HF := Lib.hid hf
    clear H hv hf hR hy a0
    go_enter Try.func24, Try.ntmps24
    go_wp2_with (with_reducible refine wpList_lookup_yes rfl (.tmp 12) (.tmp 13) _ rfl HK.out Try.underlying3 (zero_int _) m f HM.out k i HF.out rfl rfl ?_)
    go_ret2
    exact ⟨rfl, 0, rfl⟩

set_option maxHeartbeats 1000000 in
theorem cancel_hp {r : List Tm} (k : Int) (H : HP w B h ts n) (hB : B ≤ w.heap.size) (hR : Rel ts r) (hs : ts.length ≤ 100000) : Calls Try.prog 26 #[.pointer (some ⟨h, 0, none⟩), .int .i64 k] w fun e w' => e = .returned (.bool (hasR r k)) ∧
    ∃ ts' n', HP w' B h ts' n' ∧ Rel ts' (cancelR r k) ∧ Fx B w w' ∧ n ≤ n' ∧ n' ≤ n + 3 * digV ts.length := by
  have H0 := H
  obtain ⟨m, v, f, H, hv⟩ := H
  rw [hR.has hv k]
  obtain ⟨k0, k1, _⟩ := H.box_cells
  have HM := Lib.hid H.mp
  have HK := Lib.hid (Try.underlying53)
  rcases hf : f k with _ | i
  · have hR' : Rel ts (cancelR r k) := by rw [cancelR_none (hR.not_has hv hf)]; exact hR
    have HR := Lib.hid hR'
    have HF := Lib.hid hf; have HH := Lib.hid H0
    clear H hv hf hR hR' H0
    simp only [Option.isSome_none]
    go_enter Try.func26, Try.ntmps26
    go_wp2_with (with_reducible refine wpList_lookup_no rfl (.tmp 11) (.tmp 12) _ rfl HK.out Try.underlying3 (zero_int _) m f HM.out k HF.out rfl rfl ?_)
    go_ret
    exact ⟨rfl, ts, n, HH.out, HR.out, Fx.refl _ _, Nat.le_refl _, Nat.le_add_right _ _⟩
  · obtain ⟨a, ha⟩ := (hv k i).1 hf
    have hil := (List.getElem?_eq_some_iff.1 ha).1
    have ho := out_any i H0 hB hil hs
    have hR' := hR.cancel ha n
    have hst := outV_steps ts i n ts.length hil (Nat.le_refl _)
    have HR := Lib.hid hR'; have HO := Lib.hid ho; have HST := Lib.hid hst
    have HF := Lib.hid hf
    clear H hv hf hR hR' H0 ho hst ha
    simp only [Option.isSome_some]
    go_enter Try.func26, Try.ntmps26
    go_wp2_with (with_reducible refine wpList_lookup_yes rfl (.tmp 11) (.tmp 12) _ rfl HK.out Try.underlying3 (zero_int _) m f HM.out k i HF.out rfl rfl ?_)
    refine HO.out.mono ?_
    rintro e w1 ⟨rfl, h1, f1⟩
    go_wp2_with fail
    go_ret
    exact ⟨rfl, _, _, h1, HR.out, f1, HST.out.1, HST.out.2⟩

theorem own_snoc {w : World} {B : Nat} {v : Value} {ts : List Tm} (H : w.ownsRow B 59 2 v (ts.length + 1) (flat ts ++ [.int .i64 0, .int .i64 0])) : w.ownsRow B 59 2 v (ts ++ [((0 : Int), (0 : Int))]).length (flat (ts ++ [((0 : Int), (0 : Int))])) := by
  rw [flat_append]
  simpa [flat] using H
theorem info_timer : (Try.prog.info? 59).map (fun i => (i.zero, i.size, i.bytes)) = some (some (.agg #[.int .i64 0, .int .i64 0]), 2, 16) := by kernel_rfl
theorem setR_none_len {r : List Tm} {k : Int} (h : ∀ x ∈ r, x.1 ≠ k) (a : Int) : (setR r k a).length = r.length + 1 := by rw [setR_len, cancelR_none h]

set_option maxRecDepth 100000 in
set_option maxHeartbeats 4000000 in
theorem set_hp {r : List Tm} (k a : Int) (H : HP w B h ts n) (hB : B ≤ w.heap.size) (hR : Rel ts r) (hs : ts.length ≤ 10000) : Calls Try.prog 20 #[.pointer (some ⟨h, 0, none⟩), .int .i64 k, .int .i64 a] w fun e w' => e = .returned (.bool (hasR r k)) ∧
    ∃ ts' n', HP w' B h ts' n' ∧ Rel ts' (setR r k a) ∧ Fx B w w' ∧ n ≤ n' ∧ n' ≤ n + 3 * digV (ts.length + 1) := by
  obtain ⟨m, v, f, H, hv⟩ := H
  rw [hR.has hv k]
  obtain ⟨k0, k1, _, kz⟩ := H.box_cells
  have HM := Lib.hid H.mp
  have HK := Lib.hid (Try.underlying53)
  rcases hf : f k with _ | i
  · obtain ⟨A, c, rfl, hlc, hn0, hsl⟩ := H.slice
    obtain ⟨i0, hi0, hz0, hz1, hz2⟩ := info_parts info_timer
    have z0 := kz 0
    have hB0 := hB
    have HF := Lib.hid hf; have HH := Lib.hid H; have HR := Lib.hid hR; have HV := Lib.hid hv
    have hlt := H.lt.1
    have hrow : (w.alloc (.cells #[.int .i64 0, .int .i64 0] 59)).ownsRow B 59 2 (.slice A ts.length c) ts.length (flat ts) := (H.alloc _).row
    have hrd : Reads (w.alloc (.cells #[.int .i64 0, .int .i64 0] 59)) (w.heap.size + 1) 2 (some ⟨w.heap.size, 0, none⟩) 1 [.int .i64 0, .int .i64 0] := ⟨rfl, fun _ => ⟨_, rfl, by simp, fun j u hj => by
      match j, hj with
      | 0, hj => simp at hj; subst hj; simp [Addr.add]
      | 1, hj => simp at hj; subst hj; simp [Addr.add]⟩⟩
    have h1c : ∀ u ∈ [(Value.int .i64 0), .int .i64 0], u.oneCell' = true := by simp [Value.oneCell']
    have hb1 : ts.length + 1 ≤ maxLen := by unfold maxLen; omega
    have hb2 : (ts.length + 1) * 16 ≤ 140737488355328 := by omega
    have hb3 : B ≤ (w.alloc (.cells #[.int .i64 0, .int .i64 0] 59)).heap.size := by simp; omega
    have HROW := Lib.hid hrow; have HRD := Lib.hid hrd; have H1C := Lib.hid h1c; have HB1 := Lib.hid hb1; have HB2 := Lib.hid hb2; have HB3 := Lib.hid hb3
    clear hrow hrd h1c hb1 hb2 hb3
    simp only [Option.isSome_none]
    clear H hv hf hR kz hn0 hsl
    go_enter Try.func20, Try.ntmps20
    go_wp2_with (first
      | with_reducible refine wpList_lookup_no rfl (.tmp 13) (.tmp 14) _ rfl HK.out Try.underlying3 (zero_int _) m f HM.out k HF.out rfl rfl ?_
      | (at_builtin; go_must (refine wpList_append_any _ rfl (.tmp 29) (.tmp 31) _ rfl B 59 i0 _ 2 16 Try.underlying54 hi0 hz0 hz1 hz2 rfl (by omega) _ ts.length (flat ts) rfl HROW.out (w.heap.size + 1) (some ⟨w.heap.size, 0, none⟩) 1 1 _ rfl HRD.out H1C.out HB1.out HB2.out HB3.out ?_))
      | fail)
    intro v' w1 hr1 hg1 hv1
    obtain ⟨g', c', rfl⟩ : ∃ g' c', v' = .slice (some ⟨g', 0, none⟩) (ts.length + 1) c' := by
      rcases hr1.2 with ⟨_, h0⟩ | ⟨g', cap, cur, e, _⟩
      · omega
      · exact ⟨g', cap, e⟩
    obtain ⟨v', hv'⟩ : ∃ v', v' = Value.slice (some ⟨g', 0, none⟩) (ts.length + 1) c' := ⟨_, rfl⟩
    rw [← hv'] at hr1 hv1
    have HA := HH.out.alloc (.cells #[.int .i64 0, .int .i64 0] 59)
    have fr1 := Fr.of_grown hg1
    have b1 := fr1.blk HA.box (fun e => (HA.own_ne e).1 rfl)
    have m1 := HA.mp.fr fr1 (fun e => (HA.own_ne e).2.1 rfl)
    have hsz1 := fr1.size
    have hne1 : ∀ j, v'.ownBlock = some j → j ≠ h := fun j hj => by
      rcases hv1 with e | e
      · rw [e] at hj
        exact (HA.own_ne hj).1
      · rw [e] at hj
        injection hj with hj
        have : (w.alloc (.cells #[.int .i64 0, .int .i64 0] 59)).heap.size = w.heap.size + 1 := by simp
        omega
    have fr2 : Fr (fun j => j = h) w1 (w1.setCell ⟨h, 0, none⟩ v') := (Fr.refl (fun j => j = h) w1).setCell (p := ⟨h, 0, none⟩) (.inl rfl) _
    have b2 := b1.set_ 0 v'
    have H2 : HpX (w1.setCell ⟨h, 0, none⟩ v') B h m v' (ts ++ [((0 : Int), (0 : Int))]) f n := ⟨by simpa using b2, fr2.own (own_snoc hr1) hne1, m1.fr fr2 (fun e => HA.hm e.symm), HA.hb, HA.mb⟩
    have hBa : B ≤ (w.alloc (.cells #[.int .i64 0, .int .i64 0] 59)).heap.size := HB3.out
    have fx2 : Fx B w (w1.setCell ⟨h, 0, none⟩ v') := ((Fx.refl B w).alloc hB _).trans (HA.fx hBa ((fr1.mono (S := fun j => j = h ∨ j = m ∨ (Value.slice A ts.length c).ownBlock = some j) (fun i _ e => .inr (.inr e))).trans fr2 (fun i _ e => .inl e)))
    have y0 : w1.cell? ⟨h, 0, none⟩ = some (.slice A ts.length c) := by rw [b1.cell]; rfl
    have y1 : w1.frozen? ⟨h, 0, none⟩ = false := b1.frozen 0
    have hput := put_any ts.length (k, a) H2 (Nat.le_trans hB fx2.bel.size) (by simp) (by simp; omega)
    have hset : (ts ++ [((0 : Int), (0 : Int))]).set ts.length (k, a) = ts ++ [(k, a)] := by simp
    rw [hset] at hput
    have hR' := HR.out.set_none (HR.out.not_has HV.out HF.out) a n
    have hst := settleV_steps (ts ++ [(k, a)]) ts.length n (ts.length + 1) (by simp) (by simp)
    have hvs := HV.out.snoc k a HF.out
    subst hv'
    unfold tmV at hput
    have HR' := Lib.hid hR'; have HP1 := Lib.hid hput; have HST := Lib.hid hst; have HV' := Lib.hid hvs; have HH2 := Lib.hid H2; have HFX2 := Lib.hid fx2
    clear hr1 hg1 hv1 HA fr1 b1 m1 hsz1 hne1 fr2 b2 H2 fx2 hput hset hR' hst hvs k0 k1 z0
    go_wp2_with fail
    refine HP1.out.mono ?_
    rintro e w3 ⟨rfl, h3, f3⟩
    have fx3 := HFX2.out.trans (HH2.out.fx (Nat.le_trans hB HFX2.out.bel.size) f3)
    have hse := settle_any ts.length (w := w3) (B := B) (h := h) (n := n) (ts := ts ++ [(k, a)]) ⟨m, _, _, h3, HV'.out⟩ (Nat.le_trans hB fx3.bel.size) (by simp) (by simp; omega)
    have HSE := Lib.hid hse; have HFX := Lib.hid fx3
    clear h3 f3 fx3 hse HP1
    go_wp2_with fail
    refine HSE.out.mono ?_
    rintro e w2 ⟨rfl, h2, f2⟩
    go_wp2_with fail
    go_ret
    exact ⟨rfl, _, _, h2, HR'.out, HFX.out.trans f2, HST.out.1, HST.out.2⟩
  · obtain ⟨a0, ha⟩ := (hv k i).1 hf
    have hil := (List.getElem?_eq_some_iff.1 ha).1
    have hput := put_any i (k, a) H hB hil (by omega)
    have hR' := hR.set_some ha a n
    have hst := settleV_steps (ts.set i (k, a)) i n (ts.length + 1) (by simpa using hil) (by simp)
    have hv' := hv.set_same hil a hf
    have HR := Lib.hid hR'; have HP1 := Lib.hid hput; have HST := Lib.hid hst; have HV := Lib.hid hv'; have HH := Lib.hid H
    have HF := Lib.hid hf; have HIL := Lib.hid hil; have HS := Lib.hid hs
    clear H hv hf hR hR' hput hst hv' ha kz
    unfold tmV at HP1
    simp only [Option.isSome_some]
    go_enter Try.func20, Try.ntmps20
    go_wp2_with (with_reducible refine wpList_lookup_yes rfl (.tmp 13) (.tmp 14) _ rfl HK.out Try.underlying3 (zero_int _) m f HM.out k i HF.out rfl rfl ?_)
    refine HP1.out.mono ?_
    rintro e w1 ⟨rfl, h1, f1⟩
    have fx1 := HH.out.fx hB f1
    have hse := settle_any i (w := w1) (B := B) (h := h) (n := n) (ts := ts.set i (k, a)) ⟨m, _, _, h1, HV.out⟩ (Nat.le_trans hB fx1.bel.size) (by simpa using HIL.out) (by have := HS.out; simp; omega)
    have HSE := Lib.hid hse; have HFX := Lib.hid fx1
    clear h1 f1 fx1 hse HP1
    go_wp2_with fail
    refine HSE.out.mono ?_
    rintro e w2 ⟨rfl, h2, f2⟩
    go_wp2_with fail
    go_ret
    exact ⟨rfl, _, _, h2, HR.out, HFX.out.trans f2, HST.out.1, HST.out.2⟩
end
end Go.Proofs.Ytglgficmfpecgaa
