
/-
  The document's Push, Pop, Enter, Leave, Jump, Set.
-/
import Derived.Test.YtkciedcfphhenaaRefTB
import Derived.Deep.AppendLies
import Derived.Deep.RegionLaw
import Derived.Deep.RegionHeld
import Derived.Deep.DeepCutAuto
import Derived.Deep.CutBlock
set_option linter.unusedVariables false
set_option linter.unusedSimpArgs false
namespace Go.Proofs.Ytkciedcfphhenaa
open Go.RowKit Plain

set_option maxHeartbeats 4000000 in
set_option maxRecDepth 100000 in
theorem refPush_yes (h : TH) (t : TV) (v : Int) (w : World) (D : Nat → Prop) (hr : RT w D h t) (hl : LensT t) (hroom : t.stack.length < 16) :
    Calls Try.prog 40 #[.agg #[.int .i64 t.state, .int .i64 t.on, .slice h.fA t.frames.length h.fc, .slice h.sA t.stack.length h.sc, .int .i64 t.code], .int .i64 v] w
      fun e w' => ∃ h' : TH, e = .returned (.tuple #[.agg #[.int .i64 (pushT t v).state, .int .i64 (pushT t v).on, .slice h'.fA (pushT t v).frames.length h'.fc, .slice h'.sA (pushT t v).stack.length h'.sc, .int .i64 (pushT t v).code], .bool true]) ∧ RT w' (fun i => w.heap.size ≤ i) h' (pushT t v) ∧ (Below w.heap.size w w') := by
  have hlen1 := hl.stack
  have hlen2 := hl.frames
  have hcl := fun (W : World) (hW : RT W D h t) => refClone_any h t W D hW hl
  have HC := Lib.hid hcl
  obtain ⟨i0, hi0, hz0, hz1, hz2⟩ := info_parts info_int
  have hroomi : (t.stack.length : Int) < 16 := by omega
  obtain ⟨tA, tc, kA, kc⟩ := h
  have HR := Lib.hid hr
  clear hr hcl hl
  go_enter Try.func40, Try.ntmps40
  go_wp2_with fail
  refine (HC.out _ ((HR.out.alloc _).alloc _)).mono ?_
  rintro e w1 ⟨A, c, qA, qc, ts, rfl, hot, hb⟩
  have hz : ((w.alloc (.cells #[.int .i64 t.state, .int .i64 t.on, .slice tA t.frames.length tc, .slice kA t.stack.length kc, .int .i64 t.code] 29)).alloc (.cells #[.int .i64 0, .int .i64 0, .slice none 0 0, .slice none 0 0, .int .i64 0] 29)).heap.size = w.heap.size + 1 + 1 := by simp
  have hrb : Blk ((w.alloc (.cells #[.int .i64 t.state, .int .i64 t.on, .slice tA t.frames.length tc, .slice kA t.stack.length kc, .int .i64 t.code] 29)).alloc (.cells #[.int .i64 0, .int .i64 0, .slice none 0 0, .slice none 0 0, .int .i64 0] 29)) (w.heap.size + 1) 29 #[.int .i64 0, .int .i64 0, .slice none 0 0, .slice none 0 0, .int .i64 0] := by simpa using Blk.new (w.alloc (.cells #[.int .i64 t.state, .int .i64 t.on, .slice tA t.frames.length tc, .slice kA t.stack.length kc, .int .i64 t.code] 29)) 29 #[.int .i64 0, .int .i64 0, .slice none 0 0, .slice none 0 0, .int .i64 0]
  have hwk := wk_of (w := w) hrb (((Below.refl _ _).alloc (Nat.le_refl _) _).alloc (by simp) _) (by omega) hot hb
  rw [hz] at hwk
  have HW := Lib.hid hwk
  obtain ⟨ob, hob⟩ : ∃ b, b = w1.heap.size := ⟨_, rfl⟩
  clear hot hb hwk hrb hz HR HC
  go_upto_region 4 with fail
  obtain ⟨W3, hW3⟩ : ∃ W, W = w1.alloc (.cells #[.int .i64 t.state, .int .i64 t.on, .slice A t.frames.length c, .slice qA t.stack.length qc, .int .i64 t.code] 29) := ⟨_, rfl⟩
  rw [← hW3, ← hob] at HW
  rw [← hW3, ← hob]
  clear hW3 hob
  have zob := HW.out.bx.lt
  have zrb := HW.out.rs.lt
  have x3 : W3.cell? ⟨ob, 3, none⟩ = some (.slice qA t.stack.length qc) := (HW.out.bx.cell 3).trans rfl
  have hbs := HW.out.bel.size
  have zb3 := HW.out.h2
  go_region_law (first
    | (refine step_append_lies _ (by rfl) (.tmp 15) (.tmp 18) _ (by rfl) (w.heap.size + 1 + 1) 3 i0 _ 1 8 Try.underlying23 hi0 hz0 hz1 hz2 rfl (by decide) (.slice qA t.stack.length qc) t.stack.length (IS t.stack) (by rfl) ((HW.out.ot.stk.drew).alloc _) ⟨W3.heap.size, 0, none⟩ 1 1 [.int .i64 (keep v)] (by rfl) rfl
        (by intro j u hj; match j, hj with | 0, hj => (simp at hj; subst hj; simp [Addr.add])) (by intro u hu; simp at hu; subst hu; rfl) (by omega) (by unfold maxLen; omega) (by omega) (by simp; omega) _ rfl ?_
       intro g' cap' w' hown' hg' hor' hlt'
       have hF : Fr (fun i => (Value.slice qA t.stack.length qc).ownBlock = some i) W3 w' := ((Fr.refl _ W3).drew.alloc _).trans (Fr.of_grown hg') (fun i _ h => h)
       have hb' := hF.blk HW.out.bx (own_blk_ne HW.out.ot.stk HW.out.bx (by decide))
       have z3 := (hb'.cell 3).trans rfl
       have zf := hb'.frozen 3
       have hlo := hb'.lt)
    | (go_simp; refine (refKeep_any v _).mono ?_; rintro e wq ⟨rfl, rfl⟩; go_wp2_with fail))
  all_goals
    obtain ⟨W4, hW4⟩ : ∃ W, W = w'.setCell ⟨ob, 3, none⟩ (.slice (some ⟨g', 0, none⟩) (t.stack.length + 1) cap') := ⟨_, rfl⟩
    rw [← hW4]
    have hstk : IS t.stack ++ [.int .i64 (keep v)] = IS (t.stack ++ [keep v]) := by simp [IS]
    have hl1 : (t.stack ++ [keep v]).length = t.stack.length + 1 := by simp
    rw [hstk] at hown'
    have hfin := fin_push HW.out hF (l := t.stack ++ [keep v]) (by rw [hl1]; exact hown')
    rw [hl1, ← hW4] at hfin
    have HFIN : Hid (Fin5 w W4 (w.heap.size + 1) ob (w.heap.size + 1 + 1) ⟨A, c, some ⟨g', 0, none⟩, cap'⟩ (pushT t v)) := hfin
    clear hfin hW4 hown' hg' hor' hlt' hF hb' z3 zf hlo hstk hl1 x3 zob zrb hbs zb3 HW
    have hfb := HFIN.out.bx
    have hfr := HFIN.out.rs
    have q0 := (hfb.cell 0).trans rfl
    have qf0 := hfb.frozen 0
    have q1 := (hfb.cell 1).trans rfl
    have qf1 := hfb.frozen 1
    have q2 := (hfb.cell 2).trans rfl
    have qf2 := hfb.frozen 2
    have q3 := (hfb.cell 3).trans rfl
    have qf3 := hfb.frozen 3
    have q4 := (hfb.cell 4).trans rfl
    have qf4 := hfb.frozen 4
    have r0 : W4.cell? ⟨w.heap.size + 1, 0, none⟩ = some (.int .i64 0) := (hfr.cell 0).trans rfl
    have u0 : W4.frozen? ⟨w.heap.size + 1, 0, none⟩ = false := hfr.frozen 0
    have r1 : W4.cell? ⟨w.heap.size + 1, 1, none⟩ = some (.int .i64 0) := (hfr.cell 1).trans rfl
    have u1 : W4.frozen? ⟨w.heap.size + 1, 1, none⟩ = false := hfr.frozen 1
    have r2 : W4.cell? ⟨w.heap.size + 1, 2, none⟩ = some (.slice none 0 0) := (hfr.cell 2).trans rfl
    have u2 : W4.frozen? ⟨w.heap.size + 1, 2, none⟩ = false := hfr.frozen 2
    have r3 : W4.cell? ⟨w.heap.size + 1, 3, none⟩ = some (.slice none 0 0) := (hfr.cell 3).trans rfl
    have u3 : W4.frozen? ⟨w.heap.size + 1, 3, none⟩ = false := hfr.frozen 3
    have r4 : W4.cell? ⟨w.heap.size + 1, 4, none⟩ = some (.int .i64 0) := (hfr.cell 4).trans rfl
    have u4 : W4.frozen? ⟨w.heap.size + 1, 4, none⟩ = false := hfr.frozen 4
    have zo4 := hfb.lt
    have zr4 := hfr.lt
    clear hfb hfr
    go_wp2_with fail
    refine bodyPost_ret (v := .tuple #[.agg #[.int .i64 (pushT t v).state, .int .i64 (pushT t v).on, .slice (⟨A, c, some ⟨g', 0, none⟩, cap'⟩ : TH).fA (pushT t v).frames.length (⟨A, c, some ⟨g', 0, none⟩, cap'⟩ : TH).fc, .slice (⟨A, c, some ⟨g', 0, none⟩, cap'⟩ : TH).sA (pushT t v).stack.length (⟨A, c, some ⟨g', 0, none⟩, cap'⟩ : TH).sc, .int .i64 (pushT t v).code], .bool true]) (results_cell_slot rfl _ _ (w.heap.size + 1) 29 _ (0, 0) _ _ rfl rfl (Blk.set5 HFIN.out.rs _ _ _ _ _) Try.underlying29 rfl (by kernel_rfl)) rfl ?_
    exact ⟨⟨A, c, some ⟨g', 0, none⟩, cap'⟩, rfl, HFIN.out.ret⟩

set_option maxHeartbeats 4000000 in
set_option maxRecDepth 100000 in
theorem refPop_yes (h : TH) (t : TV) (k : Nat) (z : Int) (w : World) (D : Nat → Prop) (hr : RT w D h t) (hl : LensT t) (hroom : t.stack.length = k + 1 ∧ k < 1000000 ∧ t.stack[k]? = some z) :
    Calls Try.prog 37 #[.agg #[.int .i64 t.state, .int .i64 t.on, .slice h.fA t.frames.length h.fc, .slice h.sA t.stack.length h.sc, .int .i64 t.code]] w
      fun e w' => ∃ h' : TH, e = .returned (.tuple #[.agg #[.int .i64 t.state, .int .i64 t.on, .slice h'.fA t.frames.length h'.fc, .slice h'.sA k h'.sc, .int .i64 t.code], .int .i64 z, .bool true]) ∧ RT w' (fun i => w.heap.size ≤ i) h' { t with stack := t.stack.take k } ∧ (Below w.heap.size w w') := by
  have hlen1 := hl.stack
  have hlen2 := hl.frames
  have hcl := fun (W : World) (hW : RT W D h t) => refClone_any h t W D hW hl
  have HC := Lib.hid hcl
  obtain ⟨hlen, hk6, hz0⟩ := hroom
  have hnz : ¬ (t.stack.length : Int) = 0 := by omega
  have hpos : 0 < t.stack.length := by omega
  have HLEN := Lib.hid hlen; have HZ0 := Lib.hid hz0
  clear hlen hz0
  obtain ⟨tA, tc, kA, kc⟩ := h
  have HR := Lib.hid hr
  clear hr hcl hl
  go_enter Try.func37, Try.ntmps37
  go_wp2_with fail
  refine (HC.out _ ((HR.out.alloc _).alloc _)).mono ?_
  rintro e w1 ⟨A, c, qA, qc, ts, rfl, hot, hb⟩
  have hz : ((w.alloc (.cells #[.int .i64 t.state, .int .i64 t.on, .slice tA t.frames.length tc, .slice kA t.stack.length kc, .int .i64 t.code] 29)).alloc (.cells #[.int .i64 0, .int .i64 0, .slice none 0 0, .slice none 0 0, .int .i64 0] 29)).heap.size = w.heap.size + 1 + 1 := by simp
  have hrb : Blk ((w.alloc (.cells #[.int .i64 t.state, .int .i64 t.on, .slice tA t.frames.length tc, .slice kA t.stack.length kc, .int .i64 t.code] 29)).alloc (.cells #[.int .i64 0, .int .i64 0, .slice none 0 0, .slice none 0 0, .int .i64 0] 29)) (w.heap.size + 1) 29 #[.int .i64 0, .int .i64 0, .slice none 0 0, .slice none 0 0, .int .i64 0] := by simpa using Blk.new (w.alloc (.cells #[.int .i64 t.state, .int .i64 t.on, .slice tA t.frames.length tc, .slice kA t.stack.length kc, .int .i64 t.code] 29)) 29 #[.int .i64 0, .int .i64 0, .slice none 0 0, .slice none 0 0, .int .i64 0]
  have hwk := wk_of (w := w) hrb (((Below.refl _ _).alloc (Nat.le_refl _) _).alloc (by simp) _) (by omega) hot hb
  rw [hz] at hwk
  have HW := Lib.hid hwk
  obtain ⟨ob, hob⟩ : ∃ b, b = w1.heap.size := ⟨_, rfl⟩
  clear hot hb hwk hrb hz HR HC
  go_upto_region 4 with fail
  obtain ⟨W3, hW3⟩ : ∃ W, W = w1.alloc (.cells #[.int .i64 t.state, .int .i64 t.on, .slice A t.frames.length c, .slice qA t.stack.length qc, .int .i64 t.code] 29) := ⟨_, rfl⟩
  rw [← hW3, ← hob] at HW
  rw [← hW3, ← hob]
  clear hW3 hob
  obtain ⟨g', cap, hv, hgb, hgz⟩ := HW.out.ot.stk.form (by omega)
  injection hv with hv1 _ hv2
  subst hv1 hv2
  have hck : W3.cell? ⟨g', k, none⟩ = some (.int .i64 z) := (HW.out.ot.stk.cellAt k (by have := HLEN.out; omega)).trans (by simp [IS, HZ0.out])
  have zob := HW.out.bx.lt
  have zrb := HW.out.rs.lt
  have x3 : W3.cell? ⟨ob, 3, none⟩ = some (.slice (some ⟨g', 0, none⟩) (k + 1) qc) := (HW.out.bx.cell 3).trans (by simp [HLEN.out])
  have y3 : W3.frozen? ⟨ob, 3, none⟩ = false := HW.out.bx.frozen 3
  have hcap : k ≤ qc := by obtain ⟨_, _, e, h, _⟩ := own_slice HW.out.ot.stk; injection e with _ _ e; have := HLEN.out; omega
  clear hnz hlen1 hgb hgz hpos
  go_upto_region 7 with fail
  have hfin := fin_pop HW.out (k := k) (by rw [HLEN.out]; omega)
  obtain ⟨W4, hW4⟩ : ∃ W, W = W3.setCell ⟨ob, 3, none⟩ (.slice (some ⟨g', 0, none⟩) k qc) := ⟨_, rfl⟩
  rw [← hW4] at hfin ⊢
  have HFIN := Lib.hid hfin
  have hlk : (t.stack.take k).length = k := by rw [List.length_take, HLEN.out]; omega
  have HLK := Lib.hid hlk
  clear hfin hW4 x3 y3 hck zob zrb HW hlk
  have hfb := HFIN.out.bx
  have hfr := HFIN.out.rs
  have q0 := (hfb.cell 0).trans rfl
  have qf0 := hfb.frozen 0
  have q1 := (hfb.cell 1).trans rfl
  have qf1 := hfb.frozen 1
  have q2 := (hfb.cell 2).trans rfl
  have qf2 := hfb.frozen 2
  have q3 := (hfb.cell 3).trans rfl
  have qf3 := hfb.frozen 3
  have q4 := (hfb.cell 4).trans rfl
  have qf4 := hfb.frozen 4
  have r0 : W4.cell? ⟨w.heap.size + 1, 0, none⟩ = some (.int .i64 0) := (hfr.cell 0).trans rfl
  have u0 : W4.frozen? ⟨w.heap.size + 1, 0, none⟩ = false := hfr.frozen 0
  have r1 : W4.cell? ⟨w.heap.size + 1, 1, none⟩ = some (.int .i64 0) := (hfr.cell 1).trans rfl
  have u1 : W4.frozen? ⟨w.heap.size + 1, 1, none⟩ = false := hfr.frozen 1
  have r2 : W4.cell? ⟨w.heap.size + 1, 2, none⟩ = some (.slice none 0 0) := (hfr.cell 2).trans rfl
  have u2 : W4.frozen? ⟨w.heap.size + 1, 2, none⟩ = false := hfr.frozen 2
  have r3 : W4.cell? ⟨w.heap.size + 1, 3, none⟩ = some (.slice none 0 0) := (hfr.cell 3).trans rfl
  have u3 : W4.frozen? ⟨w.heap.size + 1, 3, none⟩ = false := hfr.frozen 3
  have r4 : W4.cell? ⟨w.heap.size + 1, 4, none⟩ = some (.int .i64 0) := (hfr.cell 4).trans rfl
  have u4 : W4.frozen? ⟨w.heap.size + 1, 4, none⟩ = false := hfr.frozen 4
  have zo4 := hfb.lt
  have zr4 := hfr.lt
  clear hfb hfr
  simp only [HLK.out] at q3
  go_wp2_with fail
  have hret := HFIN.out.ret
  simp only [HLK.out] at hret
  refine bodyPost_ret (v := .tuple #[.agg #[.int .i64 t.state, .int .i64 t.on, .slice A t.frames.length c, .slice (some ⟨g', 0, none⟩) k qc, .int .i64 t.code], .int .i64 z, .bool true]) (results_cell_slots rfl _ _ (w.heap.size + 1) 29 _ (0, 0) _ _ _ rfl rfl rfl (Blk.set5 HFIN.out.rs (.int .i64 t.state) (.int .i64 t.on) (.slice A t.frames.length c) (.slice (some ⟨g', 0, none⟩) k qc) (.int .i64 t.code)) Try.underlying29 rfl (by kernel_rfl)) rfl ?_
  exact ⟨⟨A, c, some ⟨g', 0, none⟩, qc⟩, rfl, hret⟩

set_option maxHeartbeats 4000000 in
set_option maxRecDepth 100000 in
theorem refLeave_yes (h : TH) (t : TV) (k : Nat) (w : World) (D : Nat → Prop) (hr : RT w D h t) (hl : LensT t) (hroom : t.frames.length = k + 1 ∧ k < 1000000) :
    Calls Try.prog 44 #[.agg #[.int .i64 t.state, .int .i64 t.on, .slice h.fA t.frames.length h.fc, .slice h.sA t.stack.length h.sc, .int .i64 t.code]] w
      fun e w' => ∃ h' : TH, e = .returned (.tuple #[.agg #[.int .i64 t.state, .int .i64 t.on, .slice h'.fA k h'.fc, .slice h'.sA t.stack.length h'.sc, .int .i64 t.code], .bool (decide (0 < k))]) ∧ RT w' (fun i => w.heap.size ≤ i) h' { t with frames := t.frames.take k } ∧ (Below w.heap.size w w') := by
  have hlen1 := hl.stack
  have hlen2 := hl.frames
  have hcl := fun (W : World) (hW : RT W D h t) => refClone_any h t W D hW hl
  have HC := Lib.hid hcl
  obtain ⟨hlen, hk6⟩ := hroom
  have HLEN := Lib.hid hlen
  clear hlen
  obtain ⟨tA, tc, kA, kc⟩ := h
  have HR := Lib.hid hr
  clear hr hcl hl
  go_enter Try.func44, Try.ntmps44
  go_wp2_with fail
  refine (HC.out _ ((HR.out.alloc _).alloc _)).mono ?_
  rintro e w1 ⟨A, c, qA, qc, ts, rfl, hot, hb⟩
  have hz : ((w.alloc (.cells #[.int .i64 t.state, .int .i64 t.on, .slice tA t.frames.length tc, .slice kA t.stack.length kc, .int .i64 t.code] 29)).alloc (.cells #[.int .i64 0, .int .i64 0, .slice none 0 0, .slice none 0 0, .int .i64 0] 29)).heap.size = w.heap.size + 1 + 1 := by simp
  have hrb : Blk ((w.alloc (.cells #[.int .i64 t.state, .int .i64 t.on, .slice tA t.frames.length tc, .slice kA t.stack.length kc, .int .i64 t.code] 29)).alloc (.cells #[.int .i64 0, .int .i64 0, .slice none 0 0, .slice none 0 0, .int .i64 0] 29)) (w.heap.size + 1) 29 #[.int .i64 0, .int .i64 0, .slice none 0 0, .slice none 0 0, .int .i64 0] := by simpa using Blk.new (w.alloc (.cells #[.int .i64 t.state, .int .i64 t.on, .slice tA t.frames.length tc, .slice kA t.stack.length kc, .int .i64 t.code] 29)) 29 #[.int .i64 0, .int .i64 0, .slice none 0 0, .slice none 0 0, .int .i64 0]
  have hwk := wk_of (w := w) hrb (((Below.refl _ _).alloc (Nat.le_refl _) _).alloc (by simp) _) (by omega) hot hb
  rw [hz] at hwk
  have HW := Lib.hid hwk
  obtain ⟨ob, hob⟩ : ∃ b, b = w1.heap.size := ⟨_, rfl⟩
  clear hot hb hwk hrb hz HR HC
  go_upto_region 2 with fail
  obtain ⟨W3, hW3⟩ : ∃ W, W = w1.alloc (.cells #[.int .i64 t.state, .int .i64 t.on, .slice A t.frames.length c, .slice qA t.stack.length qc, .int .i64 t.code] 29) := ⟨_, rfl⟩
  rw [← hW3, ← hob] at HW
  rw [← hW3, ← hob]
  clear hW3 hob
  have zob := HW.out.bx.lt
  have zrb := HW.out.rs.lt
  have hcap : k ≤ c := by obtain ⟨_, _, e, h, _⟩ := own_slice HW.out.ot.row; injection e with _ _ e; have := HLEN.out; omega
  have x2 : W3.cell? ⟨ob, 2, none⟩ = some (.slice A (k + 1) c) := (HW.out.bx.cell 2).trans (by simp [HLEN.out])
  have y2 : W3.frozen? ⟨ob, 2, none⟩ = false := HW.out.bx.frozen 2
  clear hlen1 hlen2
  have hne1 : ¬ w.heap.size + 1 = ob := by have := HW.out.h2; omega
  have hne2 : ¬ ob = w.heap.size + 1 := by omega
  go_upto_region 3 with fail
  have hfin := fin_leave HW.out (k := k) (by rw [HLEN.out]; omega)
  obtain ⟨W4, hW4⟩ : ∃ W, W = W3.setCell ⟨ob, 2, none⟩ (.slice A k c) := ⟨_, rfl⟩
  rw [← hW4] at hfin ⊢
  have HFIN := Lib.hid hfin
  have hlk : (t.frames.take k).length = k := by rw [List.length_take, HLEN.out]; omega
  have HLK := Lib.hid hlk
  clear hfin hW4 x2 y2 zob zrb HW hlk
  have hfb := HFIN.out.bx
  have hfr := HFIN.out.rs
  have q0 := (hfb.cell 0).trans rfl
  have qf0 := hfb.frozen 0
  have q1 := (hfb.cell 1).trans rfl
  have qf1 := hfb.frozen 1
  have q2 := (hfb.cell 2).trans rfl
  have qf2 := hfb.frozen 2
  have q3 := (hfb.cell 3).trans rfl
  have qf3 := hfb.frozen 3
  have q4 := (hfb.cell 4).trans rfl
  have qf4 := hfb.frozen 4
  have r0 : W4.cell? ⟨w.heap.size + 1, 0, none⟩ = some (.int .i64 0) := (hfr.cell 0).trans rfl
  have u0 : W4.frozen? ⟨w.heap.size + 1, 0, none⟩ = false := hfr.frozen 0
  have r1 : W4.cell? ⟨w.heap.size + 1, 1, none⟩ = some (.int .i64 0) := (hfr.cell 1).trans rfl
  have u1 : W4.frozen? ⟨w.heap.size + 1, 1, none⟩ = false := hfr.frozen 1
  have r2 : W4.cell? ⟨w.heap.size + 1, 2, none⟩ = some (.slice none 0 0) := (hfr.cell 2).trans rfl
  have u2 : W4.frozen? ⟨w.heap.size + 1, 2, none⟩ = false := hfr.frozen 2
  have r3 : W4.cell? ⟨w.heap.size + 1, 3, none⟩ = some (.slice none 0 0) := (hfr.cell 3).trans rfl
  have u3 : W4.frozen? ⟨w.heap.size + 1, 3, none⟩ = false := hfr.frozen 3
  have r4 : W4.cell? ⟨w.heap.size + 1, 4, none⟩ = some (.int .i64 0) := (hfr.cell 4).trans rfl
  have u4 : W4.frozen? ⟨w.heap.size + 1, 4, none⟩ = false := hfr.frozen 4
  have zo4 := hfb.lt
  have zr4 := hfr.lt
  clear hfb hfr
  simp only [HLK.out] at q2
  go_region
  go_wp2_with fail
  have hret := HFIN.out.retD
  simp only [HLK.out] at hret
  refine bodyPost_ret (v := .tuple #[.agg #[.int .i64 t.state, .int .i64 t.on, .slice A k c, .slice qA t.stack.length qc, .int .i64 t.code], .bool (decide (0 < k))]) (results_cell_slot rfl _ _ (w.heap.size + 1) 29 _ (0, 0) _ _ rfl rfl (Blk.drew (Blk.set5 HFIN.out.rs (.int .i64 t.state) (.int .i64 t.on) (.slice A k c) (.slice qA t.stack.length qc) (.int .i64 t.code))) Try.underlying29 rfl (by kernel_rfl)) rfl ?_
  exact ⟨⟨A, c, qA, qc⟩, rfl, hret⟩
end Go.Proofs.Ytkciedcfphhenaa
