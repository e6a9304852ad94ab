
/-
  The document's Clone of layer 4: a thread in memory of its own.
-/
import Derived.Test.YtkciedcfphhenaaSBox
import Derived.IntWalk
set_option linter.unusedVariables false
set_option linter.unusedSimpArgs false
namespace Go.Proofs.Ytkciedcfphhenaa
open Go.RowKit Plain

def TFr.row (x : TFr) : Value × Nat × List Value := (.slice x.A x.f.locals.length x.c, x.f.locals.length, IS x.f.locals)
/-- A thread in memory of one's own: no two of its rows of numbers are one. -/
structure OT (w : World) (base : Nat) (A : Option Addr) (c : Nat) (qA : Option Addr) (qc : Nat) (ts : List TFr) (t : TV) : Prop where
  row : w.ownsRow base 67 3 (.slice A t.frames.length c) t.frames.length (FrS ts)
  fs : ts.map TFr.f = t.frames
  ints : Rows1 w base 3 1 (ts.map TFr.row ++ [irow (.slice qA t.stack.length qc) t.stack])
theorem OT.each {w : World} {base : Nat} {A : Option Addr} {c : Nat} {qA : Option Addr} {qc : Nat} {ts : List TFr} {t : TV} (g : OT w base A c qA qc ts t) : ∀ x ∈ ts, w.ownsRow base 3 1 (.slice x.A x.f.locals.length x.c) x.f.locals.length (IS x.f.locals) := fun x hx =>
  g.ints.1 x.row (List.mem_append_left _ (List.mem_map_of_mem hx))
theorem OT.stk {w : World} {base : Nat} {A : Option Addr} {c : Nat} {qA : Option Addr} {qc : Nat} {ts : List TFr} {t : TV} (g : OT w base A c qA qc ts t) : w.ownsRow base 3 1 (.slice qA t.stack.length qc) t.stack.length (IS t.stack) :=
  g.ints.1 (irow (.slice qA t.stack.length qc) t.stack) (by simp)
theorem OT.rt {w : World} {base : Nat} {A : Option Addr} {c : Nat} {qA : Option Addr} {qc : Nat} {ts : List TFr} {t : TV} (g : OT w base A c qA qc ts t) : RT w (fun i => base ≤ i) ⟨A, c, qA, qc⟩ t :=
  ⟨rgd_of_own g.row g.fs (fun i hi => hi) (fun x hx => rid_of_own (g.each x hx) rfl), rid_of_own g.stk rfl⟩
theorem OT.fr {S : Nat → Prop} {w w' : World} {base : Nat} {A : Option Addr} {c : Nat} {qA : Option Addr} {qc : Nat} {ts : List TFr} {t : TV} (g : OT w base A c qA qc ts t) (hf : Fr S w w') (hS : ∀ i, base ≤ i → ¬ S i) : OT w' base A c qA qc ts t :=
  ⟨hf.own g.row (fun i hi => hS i (g.row.lt i hi).1), g.fs, g.ints.fr hf (fun r hr i hi => hS i ((g.ints.1 r hr).lt i hi).1)⟩
theorem OT.mono {w : World} {base B : Nat} {A : Option Addr} {c : Nat} {qA : Option Addr} {qc : Nat} {ts : List TFr} {t : TV} (g : OT w base A c qA qc ts t) (hB : B ≤ base) : OT w B A c qA qc ts t :=
  ⟨own_mono g.row hB, g.fs, ⟨fun r hr => own_mono (g.ints.1 r hr) hB, g.ints.2⟩⟩
theorem OT.below {w w' : World} {base : Nat} {A : Option Addr} {c : Nat} {qA : Option Addr} {qc : Nat} {ts : List TFr} {t : TV} (g : OT w base A c qA qc ts t) (hb : Below w.heap.size w w') : OT w' base A c qA qc ts t :=
  ⟨(Fr.of_below hb).own g.row (fun i hi e => by have := (g.row.lt i hi).2; omega), g.fs, g.ints.below hb⟩

/-- Where the cloning stands. -/
structure Cl (w wr : World) (h : TH) (t : TV) (vA : Option Addr) (i vc : Nat) (ts : List TFr) : Prop where
  bx : Blk wr w.heap.size 29 #[.int .i64 t.state, .int .i64 t.on, .slice h.fA t.frames.length h.fc, .slice h.sA t.stack.length h.sc, .int .i64 t.code]
  rb : Blk wr (w.heap.size + 1) 29 #[.int .i64 0, .int .i64 0, .slice none 0 0, .slice none 0 0, .int .i64 0]
  row : wr.ownsRow (w.heap.size + 1 + 1) 67 3 (.slice vA i vc) i (FrS ts)
  fs : ts.map TFr.f = t.frames.take i
  ints : Rows1 wr (w.heap.size + 1 + 1) 3 1 (ts.map TFr.row)
  bel : Below w.heap.size w wr

set_option maxHeartbeats 4000000 in
set_option maxRecDepth 100000 in
theorem refClone_any (h : TH) (t : TV) (w : World) (D : Nat → Prop) (hr : RT w D h t) (hl : LensT t) :
    Calls Try.prog 11 #[.agg #[.int .i64 t.state, .int .i64 t.on, .slice h.fA t.frames.length h.fc, .slice h.sA t.stack.length h.sc, .int .i64 t.code]] w
      fun e w' => ∃ A c qA qc ts, e = .returned (.agg #[.int .i64 t.state, .int .i64 t.on, .slice A t.frames.length c, .slice qA t.stack.length qc, .int .i64 t.code]) ∧ OT w' w.heap.size A c qA qc ts t ∧ Below w.heap.size w w' := by
  obtain ⟨i0, hi0, hz0, hz1, hz2⟩ := info_parts info_int
  obtain ⟨j0, hj0, hy0, hy1, hy2⟩ := info_parts info_frame
  have hF := hr.frames.rg
  have hS := hr.stack.ri
  have hll := hl.locals
  have hlf := hl.frames
  have hls := hl.stack
  obtain ⟨tA, tc, kA, kc⟩ := h
  simp only at hF hS ⊢
  have hg0 : Cl w ((w.alloc (.cells #[.int .i64 t.state, .int .i64 t.on, .slice tA t.frames.length tc, .slice kA t.stack.length kc, .int .i64 t.code] 29)).alloc (.cells #[.int .i64 0, .int .i64 0, .slice none 0 0, .slice none 0 0, .int .i64 0] 29)) ⟨tA, tc, kA, kc⟩ t none 0 0 [] := by
    refine ⟨(Blk.new w _ _).alloc _, ?_, World.ownsRow_nil _ _ _ _, rfl, ⟨fun r hr => by simp at hr, List.Pairwise.nil⟩, ((Below.refl _ _).alloc (Nat.le_refl _) _).alloc (by simp) _⟩
    simpa using Blk.new (w.alloc (.cells #[.int .i64 t.state, .int .i64 t.on, .slice tA t.frames.length tc, .slice kA t.stack.length kc, .int .i64 t.code] 29)) 29 #[.int .i64 0, .int .i64 0, .slice none 0 0, .slice none 0 0, .int .i64 0]
  have HF := Lib.hid hF; have HS := Lib.hid hS; have HLL := Lib.hid hll; have HG0 := Lib.hid hg0
  clear hr hl hF hS hll hg0
  go_enter Try.func11, Try.ntmps11
  go_wp2_with fail
  go_loopw [3, 4] (fun s3 s4 wr => ∃ (i : Nat) (vA : Option Addr) (vc : Nat) (ts : List TFr), i ≤ t.frames.length ∧ s3 = .slice vA i vc ∧ s4 = .int .i64 (i : Int) ∧ Cl w wr ⟨tA, tc, kA, kc⟩ t vA i vc ts) (fun s3 s4 _ => t.frames.length - (intOf s4).toNat)
  case atStart => exact ⟨0, none, 0, [], by omega, rfl, rfl, HG0.out⟩
  case round =>
    obtain ⟨i, vA, vc, ts, hi, rfl, rfl, g⟩ := hrel
    have G := Lib.hid g
    have zb := g.bel.size
    have z0 := g.bx.lt
    have z1 := g.rb.lt
    have x2 : wr.cell? ⟨w.heap.size, 2, none⟩ = some (.slice tA t.frames.length tc) := (g.bx.cell 2).trans rfl
    by_cases hlt : i < t.frames.length
    · obtain ⟨ad, x, rfl, hab, hx, a0, a1, a2, hri⟩ := HF.out.at_ hlt
      have hxl := HLL.out x.f (List.mem_of_getElem? hx)
      have c0 := (g.bel.cell (p := ad.add (i * 3)) (by rw [block_of_add]; exact hab)).trans a0
      have c1 := (g.bel.cell (p := ⟨(ad.add (i * 3)).block, (ad.add (i * 3)).off + 1, none⟩) (by show (ad.add (i * 3)).block < _; rw [block_of_add]; exact hab)).trans a1
      have c2 := (g.bel.cell (p := ⟨(ad.add (i * 3)).block, (ad.add (i * 3)).off + 2, none⟩) (by show (ad.add (i * 3)).block < _; rw [block_of_add]; exact hab)).trans a2
      obtain ⟨hrl, hrc, hrr⟩ := hri
      have hRD : Reads (wr.alloc (.cells #[.int .i64 x.f.func, .int .i64 x.f.pc, .slice x.A x.f.locals.length x.c] 67)) w.heap.size 1 x.A x.f.locals.length (IS x.f.locals) := hrr.keep fun p hp => (g.bel.alloc zb _).cell hp
      have HRD := Lib.hid hRD; have HX := Lib.hid hx
      clear g hx a0 a1 a2 hrr hRD hrl
      go_upto_region 7 with fail
      obtain ⟨Wf, hWf⟩ : ∃ W, W = wr.alloc (.cells #[.int .i64 x.f.func, .int .i64 x.f.pc, .slice x.A x.f.locals.length x.c] 67) := ⟨_, rfl⟩
      rw [← hWf] at HRD ⊢
      have hbf : Blk Wf wr.heap.size 67 #[.int .i64 x.f.func, .int .i64 x.f.pc, .slice x.A x.f.locals.length x.c] := by rw [hWf]; exact Blk.new _ _ _
      have hfw : Fr (fun _ => False) wr Wf := by rw [hWf]; exact (Fr.refl _ wr).alloc _
      have zf : Wf.heap.size = wr.heap.size + 1 := by rw [hWf]; simp
      have f2 : Wf.cell? ⟨wr.heap.size, 2, none⟩ = some (.slice x.A x.f.locals.length x.c) := (hbf.cell 2).trans rfl
      have HBF := Lib.hid hbf; have HFW := Lib.hid hfw
      clear hbf hfw hWf x2 c0 c1 c2
      go_wp2_with (at_builtin; go_must (refine wpList_append_any _ rfl (.tmp 20) (.tmp 22) _ rfl (wr.heap.size + 1) 3 i0 _ 1 8 Try.underlying23 hi0 hz0 hz1 hz2 rfl (by decide) (.slice none 0 0) 0 [] rfl (World.ownsRow_nil _ _ _ _) w.heap.size x.A x.f.locals.length x.c (IS x.f.locals) rfl HRD.out (IS_one _) ?c1 ?c2 (by omega) ?k))
      case c1 => unfold maxLen; omega
      case c2 => omega
      case k =>
      intro v' w6 hown6 hg6 hat6
      obtain ⟨A6, c6, rfl, _, _⟩ := own_slice hown6
      have hF6 : Fr (fun j => (Value.slice none 0 0).ownBlock = some j) Wf w6 := Fr.of_grown hg6
      have hF6' : Fr (fun _ => False) wr w6 := HFW.out.trans hF6 (fun j _ h => by simp [Value.ownBlock] at h)
      have hb6 := hF6.blk HBF.out (by simp [Value.ownBlock])
      have z6 := hF6.size
      have g0 := (hb6.cell 0).trans rfl
      have g1 := (hb6.cell 1).trans rfl
      have g2 := (hb6.cell 2).trans rfl
      have gf := hb6.frozen 2
      have HB6 := Lib.hid hb6; have HF6 := Lib.hid hF6'; have HO6 := Lib.hid hown6
      clear hown6 hg6 hat6 hF6 hF6' hb6 f2 HRD HBF HFW
      go_upto_region 8 with fail
      obtain ⟨W7, hW7⟩ : ∃ W, W = w6.setCell ⟨wr.heap.size, 2, none⟩ (.slice A6 x.f.locals.length c6) := ⟨_, rfl⟩
      have hf7 : Fr (fun j => j = wr.heap.size) w6 W7 := by rw [hW7]; exact (Fr.refl (fun j => j = wr.heap.size) w6).setCell (p := ⟨wr.heap.size, 2, none⟩) (.inl rfl) _
      have hb7 : Blk W7 wr.heap.size 67 #[.int .i64 x.f.func, .int .i64 x.f.pc, .slice A6 x.f.locals.length c6] := by rw [hW7]; simpa using HB6.out.set_ 2 (.slice A6 x.f.locals.length c6)
      have ho7 := hf7.own HO6.out (fun j hj e => by have := (HO6.out.lt j hj).1; omega)
      have hfr7 : Fr (fun _ => False) wr W7 := HF6.out.trans hf7 (fun j hj e => by have e' : j = wr.heap.size := e; omega)
      have z7 := hf7.size
      rw [← hW7]
      have k0 := (hb7.cell 0).trans rfl
      have k1 := (hb7.cell 1).trans rfl
      have k2 := (hb7.cell 2).trans rfl
      have hrow : (W7.alloc (.cells #[.int .i64 x.f.func, .int .i64 x.f.pc, .slice A6 x.f.locals.length c6] 67)).ownsRow (w.heap.size + 1 + 1) 67 3 (.slice vA i vc) i (FrS ts) := (hfr7.own G.out.row (fun _ _ e => e)).alloc _
      have hnew := Reads.of_own (own_frame W7 ⟨x.f.func, x.f.pc, x.f.locals⟩ A6 c6 x.f.locals.length rfl)
      have HROW := Lib.hid hrow; have HNEW := Lib.hid hnew; have HO7 := Lib.hid ho7; have HFR := Lib.hid hfr7
      clear hW7 hf7 hb7 ho7 hfr7 hrow hnew g0 g1 g2 gf HB6 HF6 HO6
      go_wp2_with (at_builtin; go_must (refine wpList_append_any _ rfl (.tmp 25) (.tmp 27) _ rfl (w.heap.size + 1 + 1) 67 j0 _ 3 40 Try.underlying27 hj0 hy0 hy1 hy2 rfl (by decide) (.slice vA i vc) i (FrS ts) rfl HROW.out _ (some ⟨W7.heap.size, 0, none⟩) 1 1 (FrS [⟨⟨x.f.func, x.f.pc, x.f.locals⟩, A6, c6⟩]) rfl HNEW.out (FrS_one _) ?c1 ?c2 (by simp; omega) ?k))
      case c1 => unfold maxLen; omega
      case c2 => omega
      case k =>
      intro v' w8 hown8 hg8 hat8
      obtain ⟨An, cn, rfl, _, _⟩ := own_slice hown8
      rw [FrS_append] at hown8
      have hF8 : Fr (fun j => (Value.slice vA i vc).ownBlock = some j) W7 w8 := ((Fr.refl _ W7).alloc _).trans (Fr.of_grown hg8) (fun j _ h => h)
      have hF9 : Fr (fun j => (Value.slice vA i vc).ownBlock = some j) wr w8 := (HFR.out.mono (fun _ _ e => absurd e id)).trans hF8 (fun _ _ h => h)
      have z8 := hF8.size
      have hcl : Cl w w8 ⟨some ad, tc, kA, kc⟩ t An (i + 1) cn (ts ++ [⟨⟨x.f.func, x.f.pc, x.f.locals⟩, A6, c6⟩]) := by
        refine ⟨hF9.blk G.out.bx (own_blk_ne G.out.row G.out.bx (by decide)), hF9.blk G.out.rb (own_blk_ne G.out.row G.out.rb (by decide)), hown8, ?_, ?_, G.out.bel.trans (hF9.below zb (fun j hj => by have := (G.out.row.lt j hj).1; omega))⟩
        · rw [List.map_append, G.out.fs, List.take_add_one, HX.out]; rfl
        · have h1 : Rows1 w8 (w.heap.size + 1 + 1) 3 1 (ts.map TFr.row) := G.out.ints.fr hF9 (fun r hr j hj => own_ne (G.out.ints.1 r hr) G.out.row (by decide) j hj)
          have h0 : w8.ownsRow (wr.heap.size + 1) 3 1 (.slice A6 x.f.locals.length c6) x.f.locals.length (IS x.f.locals) := hF8.own HO7.out (fun j hj e => by have := (HO7.out.lt j hj).1; have := (G.out.row.lt j e).2; omega)
          rw [List.map_append]
          exact h1.push h0 (by omega) (fun r hr j hj => by have := ((G.out.ints.1 r hr).lt j hj).2; omega)
      have HCL := Lib.hid hcl
      clear hown8 hg8 hat8 hF8 hF9 hcl k0 k1 k2 HROW HNEW HO7 HFR
      go_wp2_with fail
      exact ⟨⟨i + 1, An, cn, _, by omega, rfl, by go_num, HCL.out⟩, by simp [intOf]; omega⟩
    · have hex : i = t.frames.length := by omega
      subst hex
      have x3 : wr.cell? ⟨w.heap.size, 3, none⟩ = some (.slice kA t.stack.length kc) := (g.bx.cell 3).trans rfl
      have y2 := g.bx.frozen 2
      clear g hlt
      go_upto_region 11 with fail
      obtain ⟨W1, hW1⟩ : ∃ W, W = wr.setCell ⟨w.heap.size, 2, none⟩ (.slice vA t.frames.length vc) := ⟨_, rfl⟩
      have hf1 : Fr (fun j => j = w.heap.size) wr W1 := by rw [hW1]; exact (Fr.refl (fun j => j = w.heap.size) wr).setCell (p := ⟨w.heap.size, 2, none⟩) (.inl rfl) _
      have hb1 : Blk W1 w.heap.size 29 #[.int .i64 t.state, .int .i64 t.on, .slice vA t.frames.length vc, .slice kA t.stack.length kc, .int .i64 t.code] := by rw [hW1]; simpa using G.out.bx.set_ 2 (.slice vA t.frames.length vc)
      have zz1 : W1.heap.size = wr.heap.size := by rw [hW1]; simp
      rw [← hW1]
      obtain ⟨hsl, hsc, hsr⟩ := HS.out
      have hRS : Reads W1 w.heap.size 1 kA t.stack.length (IS t.stack) := hsr.keep fun p hp => (G.out.bel.trans (hf1.below zb (fun j hj => by omega))).cell hp
      have x3 := (hb1.cell 3).trans rfl
      have HRS := Lib.hid hRS; have HF1 := Lib.hid hf1; have HB1 := Lib.hid hb1
      clear hW1 hf1 hb1 hsr hRS x2 y2 hsl
      go_wp2_with (at_builtin; go_must (refine wpList_append_any _ rfl (.tmp 31) (.tmp 33) _ rfl wr.heap.size 3 i0 _ 1 8 Try.underlying23 hi0 hz0 hz1 hz2 rfl (by decide) (.slice none 0 0) 0 [] rfl (World.ownsRow_nil _ _ _ _) w.heap.size kA t.stack.length kc (IS t.stack) rfl HRS.out (IS_one _) ?c1 ?c2 (by omega) ?k))
      case c1 => unfold maxLen; omega
      case c2 => omega
      case k =>
      intro v' w6 hown6 hg6 hat6
      obtain ⟨A6, c6, rfl, _, _⟩ := own_slice hown6
      have hF6 : Fr (fun j => (Value.slice none 0 0).ownBlock = some j) W1 w6 := Fr.of_grown hg6
      have hb6 := hF6.blk HB1.out (by simp [Value.ownBlock])
      have z6 := hF6.size
      have y3 := hb6.frozen 3
      have x6 := (hb6.cell 3).trans rfl
      have HF6 := Lib.hid hF6; have HB6 := Lib.hid hb6; have HO6 := Lib.hid hown6
      clear hown6 hg6 hat6 hF6 hb6 x3 HRS
      go_upto_region 12 with fail
      obtain ⟨W7, hW7⟩ : ∃ W, W = w6.setCell ⟨w.heap.size, 3, none⟩ (.slice A6 t.stack.length c6) := ⟨_, rfl⟩
      have hf7 : Fr (fun j => j = w.heap.size) w6 W7 := by rw [hW7]; exact (Fr.refl (fun j => j = w.heap.size) w6).setCell (p := ⟨w.heap.size, 3, none⟩) (.inl rfl) _
      have hb7 : Blk W7 w.heap.size 29 #[.int .i64 t.state, .int .i64 t.on, .slice vA t.frames.length vc, .slice A6 t.stack.length c6, .int .i64 t.code] := by rw [hW7]; simpa using HB6.out.set_ 3 (.slice A6 t.stack.length c6)
      rw [← hW7]
      have hfr : Fr (fun j => j = w.heap.size) wr W7 := (HF1.out.trans HF6.out (fun j _ h => by simp [Value.ownBlock] at h)).trans hf7 (fun j _ h => h)
      have hrb := hfr.blk G.out.rb (by omega)
      have hfs : ts.map TFr.f = t.frames := by rw [G.out.fs, List.take_of_length_le (Nat.le_refl _)]
      have hot : OT W7 (w.heap.size + 1 + 1) vA vc A6 c6 ts t := by
        refine ⟨hfr.own G.out.row (fun j hj e => by have := (G.out.row.lt j hj).1; omega), hfs, ?_⟩
        have h1 : Rows1 W7 (w.heap.size + 1 + 1) 3 1 (ts.map TFr.row) := G.out.ints.fr hfr (fun r hr j hj e => by have := ((G.out.ints.1 r hr).lt j hj).1; omega)
        have h0 : W7.ownsRow wr.heap.size 3 1 (.slice A6 t.stack.length c6) t.stack.length (IS t.stack) := hf7.own HO6.out (fun j hj e => by have := (HO6.out.lt j hj).1; omega)
        exact h1.push h0 (by omega) (fun r hr j hj => by have := ((G.out.ints.1 r hr).lt j hj).2; omega)
      have hbl := G.out.bel.trans (hfr.below zb (fun j hj => by omega))
      have HRB := Lib.hid hrb; have HOT := Lib.hid hot; have HBL := Lib.hid hbl
      have k0 := (hb7.cell 0).trans rfl
      have k1 := (hb7.cell 1).trans rfl
      have k2 := (hb7.cell 2).trans rfl
      have k3 := (hb7.cell 3).trans rfl
      have k4 := (hb7.cell 4).trans rfl
      have r0 := (hrb.cell 0).trans rfl
      have u0 := hrb.frozen 0
      have r1 := (hrb.cell 1).trans rfl
      have u1 := hrb.frozen 1
      have r2 := (hrb.cell 2).trans rfl
      have u2 := hrb.frozen 2
      have r3 := (hrb.cell 3).trans rfl
      have u3 := hrb.frozen 3
      have r4 := (hrb.cell 4).trans rfl
      have u4 := hrb.frozen 4
      have hl7 : w.heap.size + 1 < W7.heap.size := hrb.lt
      clear hW7 hf7 hb7 hfr hrb hot hbl y3 x6 hfs HF1 HB1 HF6 HB6 HO6
      go_wp2_with fail
      refine bodyPost_ret (v := .agg #[.int .i64 t.state, .int .i64 t.on, .slice vA t.frames.length vc, .slice A6 t.stack.length c6, .int .i64 t.code]) (results_cell_row rfl _ _ (w.heap.size + 1) 29 _ (0, 0) _ rfl (Blk.set5 HRB.out _ _ _ _ _) Try.underlying29 rfl (by kernel_rfl)) rfl ?_
      have hlast := (Fr.refl (fun j => j = w.heap.size + 1) W7).set5 (g := w.heap.size + 1) (.inl rfl) (.int .i64 t.state) (.int .i64 t.on) (.slice vA t.frames.length vc) (.slice A6 t.stack.length c6) (.int .i64 t.code)
      exact ⟨vA, vc, A6, c6, ts, rfl, (HOT.out.fr hlast (fun i hi e => by omega)).mono (by omega), HBL.out.trans (hlast.below HBL.out.size (fun i hi => by omega))⟩
end Go.Proofs.Ytkciedcfphhenaa
