
/-
  Clone: a thread in memory of its own.
-/
import Derived.Test.YtkciedcfphhenaaThrB
import Derived.IntWalk
set_option linter.unusedVariables false
set_option linter.unusedSimpArgs false
namespace Go.Proofs.Ytkciedcfphhenaa
open Go.RowKit Plain

/-- Where the cloning stands: the first so many frames have rows of their own. -/
structure Ck (w wr : World) (t : TV) (A' : Option Addr) (n c' : Nat) (qA : Option Addr) (m qc : Nat) (us ts : List TFr) (k : Nat) : Prop where
  bx : Blk wr w.heap.size 29 #[.int .i64 t.state, .int .i64 t.on, .slice A' n c', .slice qA m qc, .int .i64 t.code]
  rb : Blk wr (w.heap.size + 1) 29 #[.int .i64 0, .int .i64 0, .slice none 0 0, .slice none 0 0, .int .i64 0]
  row : wr.ownsRow (w.heap.size + 1 + 1) 67 3 (.slice A' n c') n (FrS (us ++ ts.drop k))
  len : us.length = k
  fs : us.map TFr.f = (ts.take k).map TFr.f
  own : ∀ x ∈ us, wr.ownsRow (w.heap.size + 1 + 1) 3 1 (.slice x.A x.f.locals.length x.c) x.f.locals.length (IS x.f.locals)
  stk : wr.ownsRow (w.heap.size + 1 + 1) 3 1 (.slice qA m qc) m (IS t.stack)
  bel : Below w.heap.size w wr

theorem drop_set {us ts : List TFr} {k : Nat} {x : TFr} (hl : us.length = k) (hx : ts[k]? = some x) (y : TFr) : (us ++ ts.drop k).set k y = (us ++ [y]) ++ ts.drop (k + 1) := by
  have hk := (List.getElem?_eq_some_iff.1 hx).1
  have hd : ts.drop k = x :: ts.drop (k + 1) := by rw [List.drop_eq_getElem_cons hk, (List.getElem?_eq_some_iff.1 hx).2]
  rw [List.set_append_right _ _ (by omega), hd, show k - us.length = 0 by omega, List.set_cons_zero]
  simp
theorem drop_at {us ts : List TFr} {k : Nat} {x : TFr} (hl : us.length = k) (hx : ts[k]? = some x) : (us ++ ts.drop k)[k]? = some x := by
  rw [List.getElem?_append_right (by omega), List.getElem?_drop, show k + (k - us.length) = k by omega, hx]

theorem Ck.round {w wr Wf w6 : World} {t : TV} {b n c' : Nat} {qA : Option Addr} {m qc k : Nat} {us ts : List TFr} {x : TFr} (g : Ck w wr t (some ⟨b, 0, none⟩) n c' qA m qc us ts k) (hx : ts[k]? = some x) (hk : k < n)
    (hf : Fr (fun _ => False) wr Wf) (hb : Below Wf.heap.size Wf w6) {A6 : Option Addr} {c6 : Nat} (ho : w6.ownsRow Wf.heap.size 3 1 (.slice A6 x.f.locals.length c6) x.f.locals.length (IS x.f.locals)) :
    Ck w (w6.setCell ⟨b, k * 3 + 2, none⟩ (.slice A6 x.f.locals.length c6)) t (some ⟨b, 0, none⟩) n c' qA m qc (us ++ [⟨x.f, A6, c6⟩]) ts (k + 1) := by
  have hbl := g.row.lt b rfl
  have hz := g.bel.size
  have hz1 := hf.size
  have hz2 := hb.size
  have hlt := g.rb.lt
  have hfr : Fr (fun _ => False) wr w6 := hf.trans (Fr.of_below hb) (fun i hi h => by omega)
  have hset : Fr (fun i => i = b) w6 (w6.setCell ⟨b, k * 3 + 2, none⟩ (.slice A6 x.f.locals.length c6)) := (Fr.refl (fun i => i = b) w6).setCell (p := ⟨b, k * 3 + 2, none⟩) (.inl rfl) _
  have hall : Fr (fun i => i = b) wr (w6.setCell ⟨b, k * 3 + 2, none⟩ (.slice A6 x.f.locals.length c6)) := (hfr.mono (fun _ _ e => absurd e id)).trans hset (fun i _ h => h)
  have h1 := ((hfr.own g.row (fun _ _ e => e)).stored (k * 3 + 2) (.slice A6 x.f.locals.length c6)).1
  rw [FrS_setL _ _ _ (drop_at g.len hx) x.f.locals A6 c6, drop_set g.len hx] at h1
  refine ⟨hall.blk g.bx (by omega), hall.blk g.rb (by omega), h1, by simp [g.len], ?_, fun y hy => ?_, hall.own g.stk (fun i hi e => own_ne g.stk g.row (by decide) i hi (by simp [Value.ownBlock, e])), g.bel.trans (hall.below hz (fun i hi => by omega))⟩
  · rw [List.map_append, g.fs, List.take_add_one, hx, List.map_append]; rfl
  · rcases List.mem_append.1 hy with hy | hy
    · exact hall.own (g.own y hy) (fun i hi e => own_ne (g.own y hy) g.row (by decide) i hi (by simp [Value.ownBlock, e]))
    · have : y = ⟨x.f, A6, c6⟩ := by simpa using hy
      subst this
      exact own_mono (hset.own ho (fun i hi e => by have := (ho.lt i hi).1; omega)) (by omega)

set_option maxHeartbeats 4000000 in
set_option maxRecDepth 100000 in
theorem clone_any (h : TH) (t : TV) (w : World) (D : Nat → Prop) (hr : RT w D h t) (hl : LensT t) :
    Calls Try.prog 49 #[.agg #[.int .i64 t.state, .int .i64 t.on, .slice h.fA t.frames.length h.fc, .slice h.sA t.stack.length h.sc, .int .i64 t.code]] w
      fun e w' => ∃ h' : TH, e = .returned (.agg #[.int .i64 t.state, .int .i64 t.on, .slice h'.fA t.frames.length h'.fc, .slice h'.sA t.stack.length h'.sc, .int .i64 t.code]) ∧ RT w' (fun i => w.heap.size ≤ i) h' t ∧ Below w.heap.size w w' := by
  have hsh := fun o1 o2 => share_any h t ((w.alloc o1).alloc o2) (fun i => i < w.heap.size) (((hr.mono (E := fun i => i < w.heap.size) (fun i _ h => h)).alloc o1).alloc o2) hl
  have hst := hr.stack.ri
  have hll := hl.locals
  have hlf := hl.frames
  have hls := hl.stack
  have HSH := Lib.hid hsh; have HST := Lib.hid hst; have HLL := Lib.hid hll
  clear hr hl hsh hst hll
  obtain ⟨fA, fc, sA, sc⟩ := h
  simp only at HSH HST ⊢
  go_enter Try.func49, Try.ntmps49
  go_wp2_with fail
  refine (HSH.out _ _).mono ?_
  rintro e w1 ⟨A', c', ts, rfl, hrow, hts, hxs0, hb⟩
  have hn : t.frames.length = ts.length := by rw [← hts, List.length_map]
  have hxc : ∀ x ∈ ts, x.f.locals.length ≤ x.c := fun x hx => by rw [(hxs0 x hx).1]; exact Nat.le_refl _
  have hxs : ∀ x ∈ ts, RI w w.heap.size x.A x.f.locals.length x.f.locals.length x.f.locals := fun x hx => by
    have h2 := (hxs0 x hx).2.keep (w' := w) (fun p hp _ => ((((Below.refl w.heap.size w).alloc (Nat.le_refl _) _).alloc (by simp) _).cell hp).symm)
    exact ⟨h2.1, h2.2.1, h2.2.2⟩
  have hbx1 : Blk w1 w.heap.size 29 #[.int .i64 t.state, .int .i64 t.on, .slice fA t.frames.length fc, .slice sA t.stack.length sc, .int .i64 t.code] := ((Blk.new w _ _).alloc _).below hb (by simp; omega)
  have hrb1 : Blk w1 (w.heap.size + 1) 29 #[.int .i64 0, .int .i64 0, .slice none 0 0, .slice none 0 0, .int .i64 0] := by
    refine Blk.below ?_ hb (by simp)
    simpa using Blk.new (w.alloc (.cells #[.int .i64 t.state, .int .i64 t.on, .slice fA t.frames.length fc, .slice sA t.stack.length sc, .int .i64 t.code] 29)) 29 #[.int .i64 0, .int .i64 0, .slice none 0 0, .slice none 0 0, .int .i64 0]
  have hbel1 : Below w.heap.size w w1 := (((Below.refl w.heap.size w).alloc (Nat.le_refl _) _).alloc (by simp) _).trans (hb.mono (by simp; omega))
  have hrow1 : w1.ownsRow (w.heap.size + 1 + 1) 67 3 (.slice A' t.frames.length c') t.frames.length (FrS ts) := own_mono hrow (by simp)
  have hsz1 : w.heap.size + 1 + 1 ≤ w1.heap.size := by have := hb.size; simpa using this
  have x0 := (hbx1.cell 0).trans rfl
  have x1 := (hbx1.cell 1).trans rfl
  have x2 := (hbx1.cell 2).trans rfl
  have x3 := (hbx1.cell 3).trans rfl
  have x4 := (hbx1.cell 4).trans rfl
  have y0 := hbx1.frozen 0
  have y1 := hbx1.frozen 1
  have y2 := hbx1.frozen 2
  have y3 := hbx1.frozen 3
  have y4 := hbx1.frozen 4
  have HN := Lib.hid hn; have HTS := Lib.hid hts; have HXS := Lib.hid hxs; have HXC := Lib.hid hxc; have HB1 := Lib.hid hbx1; have HR1 := Lib.hid hrb1; have HBEL := Lib.hid hbel1; have HROW := Lib.hid hrow1
  clear hrow hts hxs0 hxs hxc hb hn hbx1 hrb1 hbel1 hrow1 HSH
  go_upto_region 2 with fail
  obtain ⟨W2, hW2⟩ : ∃ W, W = ((((w1.setCell ⟨w.heap.size, 0, none⟩ (.int .i64 t.state)).setCell ⟨w.heap.size, 1, none⟩ (.int .i64 t.on)).setCell ⟨w.heap.size, 2, none⟩ (.slice A' t.frames.length c')).setCell ⟨w.heap.size, 3, none⟩ (.slice sA t.stack.length t.stack.length)).setCell ⟨w.heap.size, 4, none⟩ (.int .i64 t.code) := ⟨_, rfl⟩
  rw [← hW2]
  have hf2 : Fr (fun i => i = w.heap.size) w1 W2 := by rw [hW2]; exact (Fr.refl (fun i => i = w.heap.size) w1).set5 (g := w.heap.size) (.inl rfl) _ _ _ _ _
  have hb2 : Blk W2 w.heap.size 29 #[.int .i64 t.state, .int .i64 t.on, .slice A' t.frames.length c', .slice sA t.stack.length t.stack.length, .int .i64 t.code] := by rw [hW2]; exact Blk.set5 HB1.out _ _ _ _ _
  have hsz2 := hf2.size
  have hbel2 := HBEL.out.trans (hf2.below (by omega) (fun i hi => by omega))
  have hown2 := fun X (hX : Below W2.heap.size W2 X) => own_ints t.stack X w.heap.size sA t.stack.length t.stack.length ⟨HST.out.1, Nat.le_refl _, (HST.out.2.2).keep fun p hp => (hbel2.trans (hX.mono (by omega))).cell hp⟩ (by have := hX.size; omega) (by omega)
  have z3 := (hb2.cell 3).trans rfl
  have HB2 := Lib.hid hb2; have HF2 := Lib.hid hf2; have HBL2 := Lib.hid hbel2; have HOWN := Lib.hid hown2
  clear hW2 hf2 hb2 hbel2 hown2 x0 x1 x2 x3 x4 y0 y1 y2 y3 y4
  go_wp2_with fail
  refine (HOWN.out _ (Below.refl _ _)).mono ?_
  rintro e w3 ⟨qA, qc, rfl, hown3, hb3⟩
  have hsz3 := hb3.size
  have hb3x := HB2.out.below hb3 (by omega)
  have k3 := (hb3x.cell 3).trans rfl
  have j3 := hb3x.frozen 3
  have HB3 := Lib.hid hb3x; have HO3 := Lib.hid hown3; have HBL3 := Lib.hid hb3
  clear hown3 hb3 hb3x z3
  go_upto_region 3 with fail
  obtain ⟨W3, hW3⟩ : ∃ W, W = w3.setCell ⟨w.heap.size, 3, none⟩ (.slice qA t.stack.length qc) := ⟨_, rfl⟩
  rw [← hW3]
  have hf3 : Fr (fun i => i = w.heap.size) w3 W3 := by rw [hW3]; exact (Fr.refl (fun i => i = w.heap.size) w3).setCell (p := ⟨w.heap.size, 3, none⟩) (.inl rfl) _
  have hb3 : Blk W3 w.heap.size 29 #[.int .i64 t.state, .int .i64 t.on, .slice A' t.frames.length c', .slice qA t.stack.length qc, .int .i64 t.code] := by rw [hW3]; simpa using HB3.out.set_ 3 (.slice qA t.stack.length qc)
  have hfr : Fr (fun i => i = w.heap.size) w1 W3 := (HF2.out.trans (Fr.of_below HBL3.out) (fun i hi h => by omega)).trans hf3 (fun i _ h => h)
  have hck : Ck w W3 t A' t.frames.length c' qA t.stack.length qc [] ts 0 := by
    refine ⟨hb3, hfr.blk HR1.out (by omega), hfr.own HROW.out (fun i hi e => by have := (HROW.out.lt i hi).1; omega), rfl, rfl, fun y hy => by simp at hy, own_mono (hf3.own HO3.out (fun i hi e => by have := (HO3.out.lt i hi).1; omega)) (by omega), HBEL.out.trans (hfr.below (by omega) (fun i hi => by omega))⟩
  have HCK := Lib.hid hck
  have u2 := (hb3.cell 2).trans rfl
  have hc' : t.frames.length ≤ c' := by obtain ⟨_, _, e, h, _⟩ := own_slice HROW.out; injection e with _ _ e; omega
  clear hW3 hf3 hb3 hfr hck k3 j3 HB2 HF2 HBL2 HOWN HB3 HO3 HBL3 HB1 HR1 HBEL HROW
  go_wp2_with fail
  go_loopw [14] (fun s wr => ∃ (k : Nat) (us : List TFr), k ≤ t.frames.length ∧ s = .int .i64 (k : Int) ∧ Ck w wr t A' t.frames.length c' qA t.stack.length qc us ts k) (fun s _ => t.frames.length - (intOf s).toNat)
  case atStart => exact ⟨0, [], by omega, rfl, HCK.out⟩
  case round =>
    obtain ⟨k, us, hk, rfl, g⟩ := hrel
    have G := Lib.hid g
    by_cases hlt : k < t.frames.length
    · have hxk : ts[k]? = some (ts[k]'(by rw [← HN.out]; exact hlt)) := List.getElem?_eq_getElem _
      generalize ts[k]'(by rw [← HN.out]; exact hlt) = x at hxk
      have hxm := List.mem_of_getElem? hxk
      have hxf : x.f ∈ t.frames := by rw [← HTS.out]; exact List.mem_map_of_mem hxm
      have hxl := HLL.out x.f hxf
      obtain ⟨e0, e1, e2⟩ := FrS_at (drop_at g.len hxk)
      obtain ⟨b, cap, hv, hbb, hbz⟩ := g.row.form (by omega)
      injection hv with hv1 _ hv2
      subst hv1 hv2
      have r0 := (g.row.cellAt (k * 3) (by omega)).trans e0
      have r1 := (g.row.cellAt (k * 3 + 1) (by omega)).trans e1
      have r2 := (g.row.cellAt (k * 3 + 2) (by omega)).trans e2
      have z2 := g.row.frozenAt (k * 3 + 2)
      have zb := g.bel.size
      have z0 := g.bx.lt
      have z1 := g.rb.lt
      have hri := HXS.out x hxm
      have hxc := HXC.out x hxm
      clear g e0 e1
      go_upto_region 6 with fail
      obtain ⟨Wf, hWf⟩ : ∃ W, W = wr.alloc (.cells #[.int .i64 x.f.func, .int .i64 x.f.pc, .slice x.A x.f.locals.length x.c] 67) := ⟨_, rfl⟩
      rw [← hWf]
      have hfw : Fr (fun _ => False) wr Wf := by rw [hWf]; exact (Fr.refl _ wr).alloc _
      have hbf : Blk Wf wr.heap.size 67 #[.int .i64 x.f.func, .int .i64 x.f.pc, .slice x.A x.f.locals.length x.c] := by rw [hWf]; exact Blk.new _ _ _
      have zf : Wf.heap.size = wr.heap.size + 1 := by rw [hWf]; simp
      have hbt := hfw.blk G.out.bx (fun e => e)
      have hrw := hfw.own G.out.row (fun _ _ e => e)
      have hS : ∀ X, Below Wf.heap.size Wf X → X.cell? ⟨w.heap.size, 2, none⟩ = some (.slice (some ⟨b, 0, none⟩) t.frames.length c') ∧ X.cell? ⟨wr.heap.size, 2, none⟩ = some (.slice x.A x.f.locals.length x.c) := fun X hX => ⟨((hbt.below hX (by omega)).cell 2).trans rfl, ((hbf.below hX (by omega)).cell 2).trans rfl⟩
      have hrwX : ∀ X, Below Wf.heap.size Wf X → X.cell? ⟨b, k * 3 + 2, none⟩ = some (.slice x.A x.f.locals.length x.c) ∧ X.frozen? ⟨b, k * 3 + 2, none⟩ = false := fun X hX => by
        have h := (Fr.of_below hX).own hrw (fun i hi h => by have := (hrw.lt i hi).2; omega)
        exact ⟨(h.cellAt (k * 3 + 2) (by omega)).trans e2, h.frozenAt (k * 3 + 2)⟩
      have hcon : ∀ X, Below Wf.heap.size Wf X → Calls Try.prog 86 #[.slice x.A x.f.locals.length x.c] X fun e w' => ∃ A6 c6, e = .returned (.slice A6 x.f.locals.length c6) ∧ w'.ownsRow Wf.heap.size 3 1 (.slice A6 x.f.locals.length c6) x.f.locals.length (IS x.f.locals) ∧ Below Wf.heap.size Wf w' := fun X hX =>
        (own_ints x.f.locals X w.heap.size x.A x.f.locals.length x.c ⟨hri.1, hxc, hri.2.2.keep fun p hp => ((G.out.bel.trans ((hfw.below (Nat.le_refl _) (fun i h => absurd h id)).mono zb)).trans (hX.mono (by omega))).cell hp⟩ (by have := hX.size; omega) (by omega)).mono fun e w' ⟨A6, c6, h1, h2, h3⟩ => ⟨A6, c6, h1, own_mono h2 hX.size, hX.trans (h3.mono hX.size)⟩
      have HS := Lib.hid hS; have HCON := Lib.hid hcon; have HRX := Lib.hid hrwX; have HXK := Lib.hid hxk; have HFW := Lib.hid hfw
      obtain ⟨s1, s2⟩ := hS Wf (Below.refl _ _)
      obtain ⟨s3, s4⟩ := hrwX Wf (Below.refl _ _)
      have hbq := Below.refl Wf.heap.size Wf
      clear hS hcon hrwX hrw hbt hbf hfw hWf hri r0 r1 r2 z2 e2 hxf hxm hxk
      have hne1 : b ≠ w.heap.size := by omega
      have hne2 : b ≠ wr.heap.size := by have := (G.out.row.lt b rfl).2; omega
      have hne3 : wr.heap.size ≠ b := Ne.symm hne2
      go_region_held3 (fun w' => w'.cell? ⟨w.heap.size, 2, none⟩ = some (.slice (some ⟨b, 0, none⟩) t.frames.length c') ∧ w'.cell? ⟨wr.heap.size, 2, none⟩ = some (.slice x.A x.f.locals.length x.c))
        (first | (with_reducible exact HS.out _ hb6) | (with_reducible exact HS.out _ hbq) | (with_reducible exact HS.out _ hbq.drew) | go_keep)
        ((go_simp
          refine (HCON.out _ (by first | (with_reducible exact hbq) | (with_reducible exact hbq.drew))).mono ?_
          rintro e w6 ⟨A6, c6, rfl, ho6, hb6⟩
          obtain ⟨s5, s6⟩ := HRX.out _ hb6))
      all_goals
        have HO6 := Lib.hid ho6; have HB6 := Lib.hid hb6
        clear ho6 hb6
        go_wp2_with fail
        exact ⟨⟨k + 1, _, by omega, by go_num, G.out.round HXK.out hlt HFW.out HB6.out HO6.out⟩, by simp [intOf]; omega⟩
    · have hkn : k = t.frames.length := by omega
      have hfs : us.map TFr.f = t.frames := by rw [← HTS.out, g.fs, List.take_of_length_le (by rw [← HN.out]; omega)]
      have hdr : ts.drop k = [] := List.drop_eq_nil_of_le (by rw [← HN.out]; omega)
      have hrw := g.row
      rw [hdr, List.append_nil] at hrw
      have o0 := (g.bx.cell 0).trans rfl
      have o1 := (g.bx.cell 1).trans rfl
      have o2 := (g.bx.cell 2).trans rfl
      have o3 := (g.bx.cell 3).trans rfl
      have o4 := (g.bx.cell 4).trans rfl
      have r0 := (g.rb.cell 0).trans rfl
      have r1 := (g.rb.cell 1).trans rfl
      have r2 := (g.rb.cell 2).trans rfl
      have r3 := (g.rb.cell 3).trans rfl
      have r4 := (g.rb.cell 4).trans rfl
      have z0 := g.rb.frozen 0
      have z1 := g.rb.frozen 1
      have z2 := g.rb.frozen 2
      have z3 := g.rb.frozen 3
      have z4 := g.rb.frozen 4
      have hlt1 := g.rb.lt
      have HFS := Lib.hid hfs; have HRW := Lib.hid hrw
      clear g hfs hdr hrw
      go_wp2_with fail
      refine bodyPost_ret (v := .agg #[.int .i64 t.state, .int .i64 t.on, .slice A' t.frames.length c', .slice qA t.stack.length qc, .int .i64 t.code]) (results_cell_row rfl _ _ (w.heap.size + 1) 29 _ (0, 0) _ rfl (Blk.set5 G.out.rb _ _ _ _ _) Try.underlying29 rfl (by kernel_rfl)) rfl ?_
      have hlast := (Fr.refl (fun j => j = w.heap.size + 1) wr).set5 (g := w.heap.size + 1) (.inl rfl) (.int .i64 t.state) (.int .i64 t.on) (.slice A' t.frames.length c') (.slice qA t.stack.length qc) (.int .i64 t.code)
      have hno : ∀ i, w.heap.size + 1 + 1 ≤ i → ¬ i = w.heap.size + 1 := fun i h e => by omega
      refine ⟨⟨A', c', qA, qc⟩, rfl, ⟨rgd_of_own (hlast.own HRW.out (fun i hi => hno i (HRW.out.lt i hi).1)) HFS.out (fun i h => by omega) (fun x hx => (rid_of_own (hlast.own (G.out.own x hx) (fun i hi => hno i ((G.out.own x hx).lt i hi).1)) rfl).mono (fun i h _ => by omega)), (rid_of_own (hlast.own G.out.stk (fun i hi => hno i (G.out.stk.lt i hi).1)) rfl).mono (fun i h _ => by omega)⟩, G.out.bel.trans (hlast.below G.out.bel.size (fun i hi => by omega))⟩
end Go.Proofs.Ytkciedcfphhenaa
