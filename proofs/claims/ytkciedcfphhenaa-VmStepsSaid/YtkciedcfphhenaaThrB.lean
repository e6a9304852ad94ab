
/-
  share: a thread with a list of frames of its own.
-/
import Derived.Test.YtkciedcfphhenaaThrA
import Derived.Deep.RegionHeld3
import Derived.Deep.DeepCutAuto
import Derived.Deep.QuietTactic
import Derived.BigQuiet
set_option linter.unusedVariables false
set_option linter.unusedSimpArgs false
namespace Go.Proofs.Ytkciedcfphhenaa
open Go.RowKit Plain

/-- A frame whose locals have no room behind them. -/
def TFr.short (t : TFr) : TFr := { t with c := t.f.locals.length }
/-- The first so many are cut. -/
def shTs (ts : List TFr) (k : Nat) : List TFr := (ts.take k).map TFr.short ++ ts.drop k
theorem shTs_zero (ts : List TFr) : shTs ts 0 = ts := by simp [shTs]
theorem shTs_all (ts : List TFr) (k : Nat) (h : ts.length ≤ k) : shTs ts k = ts.map TFr.short := by
  simp [shTs, List.take_of_length_le h, List.drop_eq_nil_of_le h]
theorem shTs_length (ts : List TFr) (k : Nat) : (shTs ts k).length = ts.length := by simp [shTs]; omega
theorem shTs_at {ts : List TFr} {k : Nat} {t : TFr} (h : ts[k]? = some t) : (shTs ts k)[k]? = some t := by
  have hk := (List.getElem?_eq_some_iff.1 h).1
  rw [shTs, List.getElem?_append_right (by simp; omega)]
  simp [show min k ts.length = k by omega, h]
theorem shTs_succ {ts : List TFr} {k : Nat} {t : TFr} (h : ts[k]? = some t) : (shTs ts k).set k t.short = shTs ts (k + 1) := by
  have hk := (List.getElem?_eq_some_iff.1 h).1
  unfold shTs
  rw [List.set_append_right _ _ (by simp; omega), List.take_add_one, h]
  simp only [List.length_map, List.length_take, show min k ts.length = k by omega, Nat.sub_self, Option.toList_some, List.map_append, List.map_cons, List.map_nil, List.append_assoc]
  congr 1
  have hd : ts.drop k = t :: ts.drop (k + 1) := by rw [List.drop_eq_getElem_cons hk, (List.getElem?_eq_some_iff.1 h).2]
  rw [hd]
  rfl
theorem short_map (ts : List TFr) : (ts.map TFr.short).map TFr.f = ts.map TFr.f := by simp [TFr.short]

theorem cell_far (W : World) (p x : Addr) (u : Value) (h : x.block ≠ p.block) : (W.setCell p u).cell? x = W.cell? x :=
  World.cell?_setCell_other _ _ _ _ (fun e => h (by rw [e]))

/-- Where the sharing stands. -/
structure Sh (w wr : World) (t : TV) (A' : Option Addr) (n c' m : Nat) (sA : Option Addr) (sc : Nat) (ts : List TFr) : Prop where
  bx : Blk wr w.heap.size 29 #[.int .i64 t.state, .int .i64 t.on, .slice A' n c', .slice sA m sc, .int .i64 t.code]
  rb : Blk wr (w.heap.size + 1) 29 #[.int .i64 0, .int .i64 0, .slice none 0 0, .slice none 0 0, .int .i64 0]
  row : wr.ownsRow (w.heap.size + 1 + 1) 67 3 (.slice A' n c') n (FrS ts)
  bel : Below w.heap.size w wr

theorem Sh.round {w wr : World} {t : TV} {b n c' m : Nat} {sA : Option Addr} {sc k : Nat} {ts : List TFr} {x : TFr} (g : Sh w wr t (some ⟨b, 0, none⟩) n c' m sA sc (shTs ts k)) (hx : ts[k]? = some x) (hk : k < n) (FB : Obj) :
    Sh w (((wr.setCell ⟨b, k * 3 + 2, none⟩ (.slice x.A x.f.locals.length x.f.locals.length)).alloc FB).drew) t (some ⟨b, 0, none⟩) n c' m sA sc (shTs ts (k + 1)) := by
  have hb := g.row.lt b rfl
  have hbel := g.bel.size
  have hlt := g.rb.lt
  have h1 := (g.row.stored (k * 3 + 2) (.slice x.A x.f.locals.length x.f.locals.length)).1
  rw [FrS_setL _ _ _ (shTs_at hx) x.f.locals x.A x.f.locals.length, show (⟨{ x.f with locals := x.f.locals }, x.A, x.f.locals.length⟩ : TFr) = x.short from rfl, shTs_succ hx] at h1
  have hba : Below (wr.setCell ⟨b, k * 3 + 2, none⟩ (.slice x.A x.f.locals.length x.f.locals.length)).heap.size (wr.setCell ⟨b, k * 3 + 2, none⟩ (.slice x.A x.f.locals.length x.f.locals.length)) ((wr.setCell ⟨b, k * 3 + 2, none⟩ (.slice x.A x.f.locals.length x.f.locals.length)).alloc FB) := (Below.refl _ _).alloc (Nat.le_refl _) _
  refine ⟨((g.bx.far (by simp; omega) _).alloc _).drew, ((g.rb.far (by simp; omega) _).alloc _).drew, (Fr.of_below hba).drew.own h1 (fun i hi e => ?_), ((g.bel.setCell (by simp; omega) _).alloc (by simpa using hbel) _).drew⟩
  have : i = b := by simpa [Value.ownBlock] using hi.symm
  simp at e
  omega

set_option maxHeartbeats 4000000 in
set_option maxRecDepth 100000 in
theorem share_any (h : TH) (t : TV) (w : World) (D : Nat → Prop) (hr : RT w D h t) (hl : LensT t) :
    Calls Try.prog 85 #[.agg #[.int .i64 t.state, .int .i64 t.on, .slice h.fA t.frames.length h.fc, .slice h.sA t.stack.length h.sc, .int .i64 t.code]] w
      fun e w' => ∃ A' c' ts, e = .returned (.agg #[.int .i64 t.state, .int .i64 t.on, .slice A' t.frames.length c', .slice h.sA t.stack.length t.stack.length, .int .i64 t.code]) ∧
        w'.ownsRow w.heap.size 67 3 (.slice A' t.frames.length c') t.frames.length (FrS ts) ∧ ts.map TFr.f = t.frames ∧ (∀ x ∈ ts, x.c = x.f.locals.length ∧ RID w D x.A x.f.locals.length x.f.locals.length x.f.locals) ∧ Below w.heap.size w w' := by
  obtain ⟨fA, fc, sA, sc⟩ := h
  obtain ⟨⟨ts, hts, _, hnc, hrd, hri⟩, hms, hmc, hst⟩ := hr
  simp only at hnc hrd hms hmc hst ⊢
  obtain ⟨hlf, hls, hll⟩ := hl
  have hn : t.frames.length = ts.length := by rw [← hts, List.length_map]
  have hll2 : ∀ x ∈ ts, x.f.locals.length ≤ x.c ∧ x.f.locals.length ≤ 17592186044416 := fun x hx => ⟨(hri x hx).2.1, hll x.f (by rw [← hts]; exact List.mem_map_of_mem hx)⟩
  have HR := Lib.hid hrd; have HT := Lib.hid hts; have HI := Lib.hid hri; have HLL := Lib.hid hll2; have HN := Lib.hid hn
  have hscb : t.stack.length ≤ sc := hmc
  clear hrd hts hri hll hll2 hst hms hn
  generalize t.frames.length = n at *
  generalize t.stack.length = m at *
  go_enter Try.func85, Try.ntmps85
  go_wp2_with fail
  have hbx0 : Blk ((w.alloc (.cells #[.int .i64 t.state, .int .i64 t.on, .slice fA n fc, .slice sA m sc, .int .i64 t.code] 29)).alloc (.cells #[.int .i64 0, .int .i64 0, .slice none 0 0, .slice none 0 0, .int .i64 0] 29)) w.heap.size 29 _ := (Blk.new w _ _).alloc _
  have hrb0 : Blk ((w.alloc (.cells #[.int .i64 t.state, .int .i64 t.on, .slice fA n fc, .slice sA m sc, .int .i64 t.code] 29)).alloc (.cells #[.int .i64 0, .int .i64 0, .slice none 0 0, .slice none 0 0, .int .i64 0] 29)) (w.heap.size + 1) 29 #[.int .i64 0, .int .i64 0, .slice none 0 0, .slice none 0 0, .int .i64 0] := by
    simpa using Blk.new (w.alloc (.cells #[.int .i64 t.state, .int .i64 t.on, .slice fA n fc, .slice sA m sc, .int .i64 t.code] 29)) 29 #[.int .i64 0, .int .i64 0, .slice none 0 0, .slice none 0 0, .int .i64 0]
  have HBX0 := Lib.hid hbx0; have HRB0 := Lib.hid hrb0
  clear hbx0 hrb0
  refine (own_frames ts _ w.heap.size fA n fc ((HR.out.reads (by omega)).keep fun p hp => ((((Below.refl w.heap.size w).alloc (Nat.le_refl _) _).alloc (by simp) _).cell hp)) (by simp; omega) (by omega)).mono ?_
  rintro e w1 ⟨A', c', rfl, hown, hb⟩
  obtain ⟨W2, hW2⟩ : ∃ W, W = (w.alloc (.cells #[.int .i64 t.state, .int .i64 t.on, .slice fA n fc, .slice sA m sc, .int .i64 t.code] 29)).alloc (.cells #[.int .i64 0, .int .i64 0, .slice none 0 0, .slice none 0 0, .int .i64 0] 29) := ⟨_, rfl⟩
  have hz2 : W2.heap.size = w.heap.size + 1 + 1 := by rw [hW2]; simp
  have hbel2 : Below w.heap.size w W2 := by rw [hW2]; exact ((Below.refl w.heap.size w).alloc (Nat.le_refl _) _).alloc (by simp) _
  rw [← hW2] at HBX0 HRB0 hown hb
  have hsz := hb.size
  rw [hz2] at hown hb
  have hbx1 := HBX0.out.below hb (by omega)
  have hrb1 := HRB0.out.below hb (by omega)
  have hbel1 : Below w.heap.size w w1 := hbel2.trans (hb.mono (by omega))
  have o2 : w1.cell? ⟨w.heap.size, 2, none⟩ = some (.slice fA n fc) := (hbx1.cell 2).trans rfl
  have f2 := hbx1.frozen 2
  have hsh : Sh w (w1.setCell ⟨w.heap.size, 2, none⟩ (.slice A' n c')) t A' n c' m sA sc ts :=
    ⟨hbx1.set_ 2 _, hrb1.far (by simp) _, (((Fr.refl (fun i => i = w.heap.size) w1).setCell (p := ⟨w.heap.size, 2, none⟩) (.inl rfl) _).own hown (fun i hi e => by have := (hown.lt i hi).1; omega)), hbel1.setCell (by simp) _⟩
  have o2' := (hsh.bx.cell 2).trans rfl
  have HSH := Lib.hid hsh
  have hc' : n ≤ c' := by obtain ⟨_, _, e, h, _⟩ := own_slice hown; injection e with _ _ e; omega
  clear hbx1 hrb1 hbel1 hsh hown hb HBX0 HRB0 hW2 hz2 hbel2 hsz
  go_wp2_with fail
  go_loopw [12] (fun s12 wr => ∃ k : Nat, k ≤ n ∧ s12 = .int .i64 (k : Int) ∧ Sh w wr t A' n c' m sA sc (shTs ts k)) (fun s12 _ => n - (intOf s12).toNat)
  case atStart => exact ⟨0, by omega, rfl, by rw [shTs_zero]; exact HSH.out⟩
  case round =>
    obtain ⟨k, hk, rfl, g⟩ := hrel
    have GH := Lib.hid g
    have o2 : wr.cell? ⟨w.heap.size, 2, none⟩ = some (.slice A' n c') := (g.bx.cell 2).trans rfl
    have szr : w.heap.size + 1 < wr.heap.size := g.rb.lt
    by_cases hlt : k < n
    · have hxk : ts[k]? = some (ts[k]'(by rw [← HN.out]; exact hlt)) := List.getElem?_eq_getElem _
      generalize ts[k]'(by rw [← HN.out]; exact hlt) = x at hxk
      have hxm := List.mem_of_getElem? hxk
      obtain ⟨e0, e1, e2⟩ := FrS_at (shTs_at hxk)
      obtain ⟨b, cap, hv, hbb, hbz⟩ := g.row.form (by omega)
      injection hv with hv1 _ hv2
      subst hv1 hv2
      have r0 := (g.row.cellAt (k * 3) (by omega)).trans e0
      have r1 := (g.row.cellAt (k * 3 + 1) (by omega)).trans e1
      have r2 := (g.row.cellAt (k * 3 + 2) (by omega)).trans e2
      have z2 := g.row.frozenAt (k * 3 + 2)
      obtain ⟨hxc, hxl⟩ := HLL.out x hxm
      have HXK := Lib.hid hxk
      have hne1 : b ≠ w.heap.size := by omega
      have hne2 : b ≠ wr.heap.size := by omega
      clear g e0 e1 e2 hbb hxk hxm
      have q1 : ∀ v, (((wr.setCell ⟨b, k * 3 + 2, none⟩ v).alloc (.cells #[.int .i64 x.f.func, .int .i64 x.f.pc, .slice x.A x.f.locals.length x.c] 67)).drew).cell? ⟨wr.heap.size, 2, none⟩ = some (.slice x.A x.f.locals.length x.c) := fun v => by
        have := (Blk.new (wr.setCell ⟨b, k * 3 + 2, none⟩ v) 67 #[.int .i64 x.f.func, .int .i64 x.f.pc, .slice x.A x.f.locals.length x.c]).cell 2
        simpa using this
      have q0 : ∀ v, (((wr.setCell ⟨b, k * 3 + 2, none⟩ v).alloc (.cells #[.int .i64 x.f.func, .int .i64 x.f.pc, .slice x.A x.f.locals.length x.c] 67)).drew).cell? ⟨w.heap.size, 2, none⟩ = some (.slice (some ⟨b, 0, none⟩) n c') := fun v =>
        (World.cell?_alloc_lt _ _ _ (show w.heap.size < _ by simp; omega)).trans ((cell_far _ _ _ _ (Ne.symm hne1)).trans o2)
      have Q1 := Lib.hid q1
      have Q0 := Lib.hid q0
      clear q1 q0
      go_wp2_with fail
      go_region_held3 (fun w' => w'.cell? ⟨w.heap.size, 2, none⟩ = some (.slice (some ⟨b, 0, none⟩) n c') ∧ w'.cell? ⟨wr.heap.size, 2, none⟩ = some (.slice x.A x.f.locals.length x.c))
        (first | exact ⟨Q0.out _, Q1.out _⟩ | go_keep)
        ((go_simp
          refine (cut_ints x.A x.f.locals.length x.c x.f.locals.length _ hxc).mono ?_
          rintro e wq ⟨rfl, rfl⟩))
      all_goals
        go_wp2_with fail
        exact ⟨⟨k + 1, by omega, by go_num, GH.out.round HXK.out hlt _⟩, by simp [intOf]; omega⟩
    · have hkn : k = n := by omega
      subst hkn
      rw [shTs_all ts k (by rw [HN.out]; exact Nat.le_refl _)] at g
      have GZ := Lib.hid g
      have o3 : wr.cell? ⟨w.heap.size, 3, none⟩ = some (.slice sA m sc) := (g.bx.cell 3).trans rfl
      have x0 : wr.cell? ⟨w.heap.size, 0, none⟩ = some (.int .i64 t.state) := (g.bx.cell 0).trans rfl
      have x1 : wr.cell? ⟨w.heap.size, 1, none⟩ = some (.int .i64 t.on) := (g.bx.cell 1).trans rfl
      have x4 : wr.cell? ⟨w.heap.size, 4, none⟩ = some (.int .i64 t.code) := (g.bx.cell 4).trans rfl
      have y0 := g.bx.frozen 3
      have r0 := (g.rb.cell 0).trans rfl
      have r1 := (g.rb.cell 1).trans rfl
      have r2 := (g.rb.cell 2).trans rfl
      have r3 := (g.rb.cell 3).trans rfl
      have r4 := (g.rb.cell 4).trans rfl
      have z0 := g.rb.frozen 0
      have z1 := g.rb.frozen 1
      have z2 := g.rb.frozen 2
      have z3 := g.rb.frozen 3
      have z4 := g.rb.frozen 4
      clear g
      go_wp2_with fail
      refine (cut_ints sA m sc m _ hscb).mono ?_
      rintro e wq ⟨rfl, rfl⟩
      go_wp2_with fail
      have hfr := ((Fr.refl (fun i => i = w.heap.size ∨ i = w.heap.size + 1) wq).setCell (p := ⟨w.heap.size, 3, none⟩) (.inl (.inl rfl)) (.slice sA m m)).set5 (g := w.heap.size + 1) (.inl (.inr rfl)) (.int .i64 t.state) (.int .i64 t.on) (.slice A' k c') (.slice sA m m) (.int .i64 t.code)
      refine bodyPost_ret (v := .agg #[.int .i64 t.state, .int .i64 t.on, .slice A' k c', .slice sA m m, .int .i64 t.code]) (results_cell_row rfl _ _ (w.heap.size + 1) 29 _ (0, 0) _ rfl (Blk.set5 (GZ.out.rb.far (by simp) _) _ _ _ _ _) Try.underlying29 rfl (by kernel_rfl)) rfl ?_
      refine ⟨A', c', ts.map TFr.short, rfl, ?_, by rw [short_map]; exact HT.out, fun y hy => ?_, ?_⟩
      · exact own_mono (hfr.own GZ.out.row (fun i hi e => by have := (GZ.out.row.lt i hi).1; rcases e with e | e <;> omega)) (by omega)
      · obtain ⟨y0, hy0, rfl⟩ := List.mem_map.1 hy
        have hri := HI.out y0 hy0
        exact ⟨rfl, hri.1, Nat.le_refl _, hri.2.2⟩
      · have h3 := hfr.below (B := w.heap.size) (by omega) (fun i hi => by rcases hi with e | e <;> omega)
        exact GZ.out.bel.trans h3
end Go.Proofs.Ytkciedcfphhenaa
