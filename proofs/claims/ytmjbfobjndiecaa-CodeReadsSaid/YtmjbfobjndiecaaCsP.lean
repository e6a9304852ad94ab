
/-
  Clone of the program: a program in memory of its own.
-/
import Derived.Test.YtmjbfobjndiecaaPrB
import Derived.Test.YtmjbfobjndiecaaGoodM
import Derived.Test.YtmjbfobjndiecaaMayC
import Derived.Test.YtmjbfobjndiecaaCsC
import Derived.Test.YtmjbfobjndiecaaGood
import Derived.Deep.RegionHeld3
import Derived.Deep.DeepCutAuto
import Derived.Deep.QuietTactic
import Derived.BigQuiet
import Derived.IntWalk
import Derived.Deep.RegionLaw
set_option linter.unusedVariables false
set_option linter.unusedSimpArgs false
namespace Go.Proofs.Ytmjbfobjndiecaa
open Go.RowKit Plain

theorem ownI_any (l : List Int) (w : World) (B : Nat) (A : Option Addr) (n c : Nat) (hr : RI w B A n c l) (hB : B ≤ w.heap.size) (hn : n ≤ 1000000) :
    Calls Try.prog 51 #[.slice A n c] w fun e w' => ∃ A' c', e = .returned (.slice A' n c') ∧ w'.ownsRow w.heap.size 3 1 (.slice A' n c') n (IS l) ∧ Below w.heap.size w w' := by
  obtain ⟨i0, hi0, hz0, hz1, hz2⟩ := info_parts info_int
  obtain ⟨h1, h2, h3⟩ := hr
  have HR := Lib.hid h3
  clear h3
  go_enter Try.func51, Try.ntmps51
  go_wp2_with (at_builtin; go_must (refine wpList_append_any _ rfl (.const (.slice none 0 0)) (.tmp 3) _ rfl w.heap.size 3 i0 _ 1 8 Try.underlying23 hi0 hz0 hz1 hz2 rfl (by decide) (.slice none 0 0) 0 [] rfl (World.ownsRow_nil _ _ _ _) B A n c (IS l) rfl HR.out (IS_one _) ?c1 ?c2 (Nat.le_refl _) ?k))
  case c1 => unfold maxLen; omega
  case c2 => omega
  case k =>
  intro v' w' hown hg hat
  obtain ⟨A', c', rfl, _, _⟩ := own_slice hown
  have hb : Below w.heap.size w w' := (Fr.of_grown hg).below (Nat.le_refl _) (fun i h => by simp [Value.ownBlock] at h)
  have HO := Lib.hid hown
  have HB := Lib.hid hb
  clear hown hg hat hb
  go_wp2_with fail
  go_ret
  exact ⟨_, _, rfl, by simpa using HO.out, HB.out⟩

theorem ownC_any (l : List IV) (w : World) (B : Nat) (A : Option Addr) (n c : Nat) (hr : RC w B A n c l) (hB : B ≤ w.heap.size) (hn : n ≤ 1000000) :
    Calls Try.prog 52 #[.slice A n c] w fun e w' => ∃ A' c', e = .returned (.slice A' n c') ∧ w'.ownsRow w.heap.size 47 2 (.slice A' n c') n (CS l) ∧ Below w.heap.size w w' := by
  obtain ⟨i0, hi0, hz0, hz1, hz2⟩ := info_parts info_instr
  obtain ⟨h1, h2, h3⟩ := hr
  have HR := Lib.hid h3
  clear h3
  go_enter Try.func52, Try.ntmps52
  go_wp2_with (at_builtin; go_must (refine wpList_append_any _ rfl (.const (.slice none 0 0)) (.tmp 3) _ rfl w.heap.size 47 i0 _ 2 16 Try.underlying43 hi0 hz0 hz1 hz2 rfl (by decide) (.slice none 0 0) 0 [] rfl (World.ownsRow_nil _ _ _ _) B A n c (CS l) rfl HR.out (CS_one _) ?c1 ?c2 (Nat.le_refl _) ?k))
  case c1 => unfold maxLen; omega
  case c2 => omega
  case k =>
  intro v' w' hown hg hat
  obtain ⟨A', c', rfl, _, _⟩ := own_slice hown
  have hb : Below w.heap.size w w' := (Fr.of_grown hg).below (Nat.le_refl _) (fun i h => by simp [Value.ownBlock] at h)
  have HO := Lib.hid hown
  have HB := Lib.hid hb
  clear hown hg hat hb
  go_wp2_with fail
  go_ret
  exact ⟨_, _, rfl, by simpa using HO.out, HB.out⟩

theorem bcell2 {W w1 : World} (hb : Below W.heap.size W w1) : (∀ b o, b < W.heap.size → w1.cell? ⟨b, o, none⟩ = W.cell? ⟨b, o, none⟩) ∧ (∀ b o, b < W.heap.size → w1.frozen? ⟨b, o, none⟩ = W.frozen? ⟨b, o, none⟩) :=
  ⟨fun b o h => hb.cell (p := ⟨b, o, none⟩) h, fun b o h => hb.frozen (p := ⟨b, o, none⟩) h⟩
theorem grown_of_drew {X w3 : World} {r : Option Nat} (h : X.drew.grownBy w3 r) : X.grownBy w3 r := ⟨h.1, h.2, h.3, h.4, h.5⟩
section
variable {w w' : World} {base : Nat} {vf vc vs vh vx : Value} {cs ss hs : List Int} {fs : List TF} {ls : List TL}
theorem OP.pushL2 (g : OP w base vf vc vs vh vx cs ss hs fs ls) {w2 W1 w3 : World} (hb : Below w.heap.size w w2) (hbase : base ≤ w.heap.size) (t : TL) (ht : w2.ownsRow w.heap.size 3 1 t.val t.l.length (IS t.l))
    {vx' : Value} (hba : Below w2.heap.size w2 W1) (hg : W1.grownBy w3 vx.ownBlock) (hx : w3.ownsRow base 23 1 vx' (ls.length + 1) (LS ls ++ [t.val])) : OP w3 base vf vc vs vh vx' cs ss hs fs (ls ++ [t]) := by
  have hz := hb.size
  have g2 := g.below hb
  have hi2 : Rows1 w2 base 3 1 ((irow vc cs :: irow vs ss :: irow vh hs :: ls.map TL.row) ++ [t.row]) :=
    Rows1.push g2.ints ht hbase g.ints.lt
  have hf := Fr.of_grown hg
  refine ⟨?_, ?_, ?_, ?_⟩
  · have := (hi2.below hba).fr hf (fun r hr i hi h => own_ne ((hi2.below hba).1 r hr) (g2.below hba).lrow (by decide) i hi h)
    simpa using this
  · rw [← LS_append]; simpa [LS, TL.val] using hx
  · exact hf.own (g2.below hba).frow (fun i hi h => own_ne (g2.below hba).frow (g2.below hba).lrow (by decide) i hi h)
  · exact (g2.below hba).code.fr hf (fun r hr i hi h => own_ne ((g2.below hba).code.1 r hr) (g2.below hba).lrow (by decide) i hi h)
theorem OP.pushF2 (g : OP w base vf vc vs vh vx cs ss hs fs ls) {w2 W1 w3 : World} (hb : Below w.heap.size w w2) (hbase : base ≤ w.heap.size) (t : TF) (ht : w2.ownsRow w.heap.size 47 2 t.val t.f.code.length (CS t.f.code))
    {vf' : Value} (hba : Below w2.heap.size w2 W1) (hg : W1.grownBy w3 vf.ownBlock) (hx : w3.ownsRow base 45 2 vf' (fs.length + 1) (FS fs ++ [.int .i64 t.f.locals, t.val])) : OP w3 base vf' vc vs vh vx cs ss hs (fs ++ [t]) ls := by
  have hz := hb.size
  have g2 := g.below hb
  have hi2 : Rows1 w2 base 47 2 (fs.map TF.row ++ [t.row]) := Rows1.push g2.code ht hbase g.code.lt
  have hf := Fr.of_grown hg
  refine ⟨?_, ?_, ?_, ?_⟩
  · exact (g2.below hba).ints.fr hf (fun r hr i hi h => own_ne ((g2.below hba).ints.1 r hr) (g2.below hba).frow (by decide) i hi h)
  · exact hf.own (g2.below hba).lrow (fun i hi h => own_ne (g2.below hba).lrow (g2.below hba).frow (by decide) i hi h)
  · rw [← FS_append]; simpa [FS, TF.val, TF.cells, flat2] using hx
  · have := (hi2.below hba).fr hf (fun r hr i hi h => own_ne ((hi2.below hba).1 r hr) (g2.below hba).frow (by decide) i hi h)
    simpa using this
theorem OP.setP (g : OP w base vf vc vs vh vx cs ss hs fs ls) {b : Nat} {ca : Array Value} (hb : Blk w b 26 ca) (i : Nat) (u : Value) : OP (w.setCell ⟨b, i, none⟩ u) base vf vc vs vh vx cs ss hs fs ls := by
  have hf := (Fr.refl (fun j => j = b) w).setCell (p := ⟨b, i, none⟩) (.inl rfl) u
  exact ⟨g.ints.fr hf (fun r hr j hj e => own_blk_ne (g.ints.1 r hr) hb (by decide) (by rw [hj, e])), hf.own g.lrow (fun j hj e => own_blk_ne g.lrow hb (by decide) (by rw [hj, e])),
    hf.own g.frow (fun j hj e => own_blk_ne g.frow hb (by decide) (by rw [hj, e])), g.code.fr hf (fun r hr j hj e => own_blk_ne (g.code.1 r hr) hb (by decide) (by rw [hj, e]))⟩
end
/-- Where the making stands. -/
structure CL (w wr : World) (h : PH) (p : PV) (gq : Nat) (vf vc vs vh vx : Value) (fs : List TF) (ls : List TL) : Prop where
  pb : Blk wr w.heap.size 26 (PC h p)
  rb : Blk wr (w.heap.size + 1) 26 #[.slice none 0 0, .int .i64 0, .slice none 0 0, .slice none 0 0, .slice none 0 0, .slice none 0 0, .int .i64 0]
  gl : w.heap.size + 1 < gq
  ob : Blk wr gq 26 #[vf, .int .i64 p.mutexes, vc, vs, vh, vx, .int .i64 p.threads]
  op : OP wr (w.heap.size + 1 + 1) vf vc vs vh vx p.conds p.semas p.chans fs ls
  bel : Below w.heap.size w wr
section
variable {w wr w2 W1 w3 : World} {h : PH} {p : PV} {gq : Nat} {vf vc vs vh vx : Value} {fs : List TF} {ls : List TL}
theorem CL.size (g : CL w wr h p gq vf vc vs vh vx fs ls) : w.heap.size + 1 + 1 < wr.heap.size := by have := g.ob.lt; have := g.gl; omega
theorem CL.below (g : CL w wr h p gq vf vc vs vh vx fs ls) (hb : Below wr.heap.size wr w2) : CL w w2 h p gq vf vc vs vh vx fs ls := by
  have hz := g.size
  exact ⟨g.pb.below hb g.pb.lt, g.rb.below hb g.rb.lt, g.gl, g.ob.below hb g.ob.lt, g.op.below hb, g.bel.trans (hb.mono (by omega))⟩
theorem CL.pushF (g : CL w wr h p gq vf vc vs vh vx fs ls) (hb : Below wr.heap.size wr w2) (t : TF) (ht : w2.ownsRow wr.heap.size 47 2 t.val t.f.code.length (CS t.f.code))
    {vf' : Value} (hba : Below w2.heap.size w2 W1) (hg : W1.grownBy w3 vf.ownBlock) (hx : w3.ownsRow (w.heap.size + 1 + 1) 45 2 vf' (fs.length + 1) (FS fs ++ [.int .i64 t.f.locals, t.val])) :
    CL w (w3.setCell ⟨gq, 0, none⟩ vf') h p gq vf' vc vs vh vx (fs ++ [t]) ls := by
  have hz := g.size
  have g3 := (g.below hb).below hba
  have o3 := g3.ob.grown hg (fun e => own_blk_ne g3.op.frow g3.ob (by decide) e.symm)
  have hgl := g.gl
  refine ⟨(g3.pb.grown hg (fun e => own_blk_ne g3.op.frow g3.pb (by decide) e.symm)).far (by simp; omega) _, (g3.rb.grown hg (fun e => own_blk_ne g3.op.frow g3.rb (by decide) e.symm)).far (by simp; omega) _, g.gl, ?_, ?_, ?_⟩
  · simpa using o3.set_ 0 vf'
  · exact (g.op.pushF2 hb (by omega) t ht hba hg hx).setP o3 0 vf'
  · exact (g3.bel.grown hg (by have := g3.size; omega) (fun k hk => by have := (g3.op.frow.lt k hk).1; omega)).setCell (by simp; omega) _
theorem CL.pushL (g : CL w wr h p gq vf vc vs vh vx fs ls) (hb : Below wr.heap.size wr w2) (t : TL) (ht : w2.ownsRow wr.heap.size 3 1 t.val t.l.length (IS t.l))
    {vx' : Value} (hba : Below w2.heap.size w2 W1) (hg : W1.grownBy w3 vx.ownBlock) (hx : w3.ownsRow (w.heap.size + 1 + 1) 23 1 vx' (ls.length + 1) (LS ls ++ [t.val])) :
    CL w (w3.setCell ⟨gq, 5, none⟩ vx') h p gq vf vc vs vh vx' fs (ls ++ [t]) := by
  have hz := g.size
  have g3 := (g.below hb).below hba
  have o3 := g3.ob.grown hg (fun e => own_blk_ne g3.op.lrow g3.ob (by decide) e.symm)
  have hgl := g.gl
  refine ⟨(g3.pb.grown hg (fun e => own_blk_ne g3.op.lrow g3.pb (by decide) e.symm)).far (by simp; omega) _, (g3.rb.grown hg (fun e => own_blk_ne g3.op.lrow g3.rb (by decide) e.symm)).far (by simp; omega) _, g.gl, ?_, ?_, ?_⟩
  · simpa using o3.set_ 5 vx'
  · exact (g.op.pushL2 hb (by omega) t ht hba hg hx).setP o3 5 vx'
  · exact (g3.bel.grown hg (by have := g3.size; omega) (fun k hk => by have := (g3.op.lrow.lt k hk).1; omega)).setCell (by simp; omega) _
end
theorem rows3 {w6 w7 w8 : World} {X6 X7 X8 base n6 n7 n8 : Nat} {v6 v7 v8 : Value} {x6 x7 x8 : List Value} (ho6 : w6.ownsRow X6 3 1 v6 n6 x6) (h67 : Below w6.heap.size w6 w7) (ho7 : w7.ownsRow X7 3 1 v7 n7 x7) (hX7 : w6.heap.size ≤ X7)
    (h78 : Below w7.heap.size w7 w8) (ho8 : w8.ownsRow X8 3 1 v8 n8 x8) (hX8 : w7.heap.size ≤ X8) (hb : base ≤ X6) (hb7 : base ≤ X7) (hb8 : base ≤ X8) : Rows1 w8 base 3 1 [(v6, n6, x6), (v7, n7, x7), (v8, n8, x8)] := by
  have r6 : Rows1 w6 base 3 1 [(v6, n6, x6)] := ⟨by simpa using own_mono ho6 hb, by simp⟩
  have r7 : Rows1 w7 base 3 1 ([(v6, n6, x6)] ++ [(v7, n7, x7)]) := (r6.below h67).push ho7 hb7 (fun r hr i hi => by have := r6.lt r hr i hi; omega)
  exact (r7.below h78).push ho8 hb8 (fun r hr i hi => by have := r7.lt r hr i hi; omega)
section
variable {w W w8 : World} {h : PH} {p : PV} {gq : Nat} {vc vs vh : Value}
theorem cl_new (hT1 : Blk W w.heap.size 26 (PC h p)) (hT2 : Blk W (w.heap.size + 1) 26 #[.slice none 0 0, .int .i64 0, .slice none 0 0, .slice none 0 0, .slice none 0 0, .slice none 0 0, .int .i64 0]) (hT3 : Below w.heap.size w W) (hzs : W.heap.size = w.heap.size + 1 + 1) (hb : Below W.heap.size W w8)
    (hr : Rows1 w8 (w.heap.size + 1 + 1) 3 1 [irow vc p.conds, irow vs p.semas, irow vh p.chans]) :
    CL w (w8.alloc (.cells #[.slice none 0 0, .int .i64 p.mutexes, vc, vs, vh, .slice none 0 0, .int .i64 p.threads] 26)) h p w8.heap.size (.slice none 0 0) vc vs vh (.slice none 0 0) [] [] := by
  have hz := hb.size
  have op0 : OP w8 (w.heap.size + 1 + 1) (.slice none 0 0) vc vs vh (.slice none 0 0) p.conds p.semas p.chans [] [] := ⟨by simpa using hr, World.ownsRow_nil _ _ _ _, World.ownsRow_nil _ _ _ _, ⟨by simp, by simp⟩⟩
  exact ⟨(hT1.below hb (by omega)).alloc _, (hT2.below hb (by omega)).alloc _, by omega, Blk.new _ _ _, op0.below ((Below.refl _ _).alloc (Nat.le_refl _) _), hT3.trans ((hb.alloc hz _).mono (by omega))⟩
theorem cl_set (hT1 : Blk W w.heap.size 26 (PC h p)) (hT2 : Blk W (w.heap.size + 1) 26 #[.slice none 0 0, .int .i64 0, .slice none 0 0, .slice none 0 0, .slice none 0 0, .slice none 0 0, .int .i64 0]) (hT3 : Below w.heap.size w W) (hzs : W.heap.size = w.heap.size + 1 + 1) (hb : Below W.heap.size W w8) (hg : W.heap.size ≤ gq) (hk : Blk w8 gq 26 #[.slice none 0 0, .int .i64 0, .slice none 0 0, .slice none 0 0, .slice none 0 0, .slice none 0 0, .int .i64 0])
    (hr : Rows1 w8 (w.heap.size + 1 + 1) 3 1 [irow vc p.conds, irow vs p.semas, irow vh p.chans]) :
    CL w (((((((w8.setCell ⟨gq, 0, none⟩ (.slice none 0 0)).setCell ⟨gq, 1, none⟩ (.int .i64 p.mutexes)).setCell ⟨gq, 2, none⟩ vc).setCell ⟨gq, 3, none⟩ vs).setCell ⟨gq, 4, none⟩ vh).setCell ⟨gq, 5, none⟩ (.slice none 0 0)).setCell ⟨gq, 6, none⟩ (.int .i64 p.threads)) h p gq (.slice none 0 0) vc vs vh (.slice none 0 0) [] [] := by
  have hz := hb.size
  have op0 : OP w8 (w.heap.size + 1 + 1) (.slice none 0 0) vc vs vh (.slice none 0 0) p.conds p.semas p.chans [] [] := ⟨by simpa using hr, World.ownsRow_nil _ _ _ _, World.ownsRow_nil _ _ _ _, ⟨by simp, by simp⟩⟩
  have k0 := hk.set_ 0 (.slice none 0 0)
  have k1 := k0.set_ 1 (.int .i64 p.mutexes)
  have k2 := k1.set_ 2 vc
  have k3 := k2.set_ 3 vs
  have k4 := k3.set_ 4 vh
  have k5 := k4.set_ 5 (.slice none 0 0)
  have k6 := k5.set_ 6 (.int .i64 p.threads)
  have o6 := ((((((op0.setP hk 0 (.slice none 0 0)).setP k0 1 (.int .i64 p.mutexes)).setP k1 2 vc).setP k2 3 vs).setP k3 4 vh).setP k4 5 (.slice none 0 0)).setP k5 6 (.int .i64 p.threads)
  have hf := (((((((Fr.refl (fun j => j = gq) w8).setCell (p := ⟨gq, 0, none⟩) (.inl rfl) (.slice none 0 0)).setCell (p := ⟨gq, 1, none⟩) (.inl rfl) (.int .i64 p.mutexes)).setCell (p := ⟨gq, 2, none⟩) (.inl rfl) vc).setCell (p := ⟨gq, 3, none⟩) (.inl rfl) vs).setCell (p := ⟨gq, 4, none⟩) (.inl rfl) vh).setCell (p := ⟨gq, 5, none⟩) (.inl rfl) (.slice none 0 0)).setCell (p := ⟨gq, 6, none⟩) (.inl rfl) (.int .i64 p.threads)
  exact ⟨hf.blk (hT1.below hb (by omega)) (by omega), hf.blk (hT2.below hb (by omega)) (by omega), by omega, by simpa using k6, o6, (hT3.trans (hb.mono (by omega))).trans (hf.below (by omega) (fun i hi => by omega))⟩
end
def ClonedP (w : World) (p : PV) (e : Ending) (w' : World) : Prop :=
  ∃ vf vc vs vh vx fs ls, e = .returned (.agg #[vf, .int .i64 p.mutexes, vc, vs, vh, vx, .int .i64 p.threads]) ∧
    OP w' w.heap.size vf vc vs vh vx p.conds p.semas p.chans fs ls ∧ fs.map TF.f = p.funcs ∧ ls.map TL.l = p.choices ∧ Below w.heap.size w w'
def RelCF (w : World) (h : PH) (p : PV) (gq : Nat) (vc vs vh : Value) (s : Value) (wr : World) : Prop :=
  ∃ k : Nat, k ≤ p.funcs.length ∧ s = .int .i64 (k : Int) ∧ ∃ vf fs, CL w wr h p gq vf vc vs vh (.slice none 0 0) fs [] ∧ fs.map TF.f = p.funcs.take k
def RelCL (w : World) (h : PH) (p : PV) (gq : Nat) (vf vc vs vh : Value) (fs : List TF) (s : Value) (wr : World) : Prop :=
  ∃ k : Nat, k ≤ p.choices.length ∧ s = .int .i64 (k : Int) ∧ ∃ vx ls, CL w wr h p gq vf vc vs vh vx fs ls ∧ ls.map TL.l = p.choices.take k
/-- Behind the rows of numbers. -/
def CutC (w : World) (h : PH) (p : PV) (s3 : Value) (wx : World) : Prop :=
  ∃ gq vc vs vh, s3 = .pointer (some ⟨gq, 0, none⟩) ∧ CL w wx h p gq (.slice none 0 0) vc vs vh (.slice none 0 0) [] []

set_option maxHeartbeats 8000000 in
set_option maxRecDepth 100000 in
theorem cloneP_any (h : PH) (p : PV) (w : World) (B : Nat) (hr : RP w B h p) (hB : B ≤ w.heap.size) (hl : Short3 p) :
    Calls Try.prog 15 #[.agg #[.slice h.fA p.funcs.length h.fc, .int .i64 p.mutexes, .slice h.cA p.conds.length h.cc, .slice h.sA p.semas.length h.sc, .slice h.hA p.chans.length h.hc, .slice h.xA p.choices.length h.xc, .int .i64 p.threads]] w (ClonedP w p) := by
  obtain ⟨fA, fc, cA, cc, sA, sc, hA, hc, xA, xc⟩ := h
  obtain ⟨T1, T2, T3⟩ := two w 26 26 #[.slice fA p.funcs.length fc, .int .i64 p.mutexes, .slice cA p.conds.length cc, .slice sA p.semas.length sc, .slice hA p.chans.length hc, .slice xA p.choices.length xc, .int .i64 p.threads] #[.slice none 0 0, .int .i64 0, .slice none 0 0, .slice none 0 0, .slice none 0 0, .slice none 0 0, .int .i64 0]
  obtain ⟨W, hW⟩ : ∃ W, W = (w.alloc (.cells #[.slice fA p.funcs.length fc, .int .i64 p.mutexes, .slice cA p.conds.length cc, .slice sA p.semas.length sc, .slice hA p.chans.length hc, .slice xA p.choices.length xc, .int .i64 p.threads] 26)).alloc (.cells #[.slice none 0 0, .int .i64 0, .slice none 0 0, .slice none 0 0, .slice none 0 0, .slice none 0 0, .int .i64 0] 26) := ⟨_, rfl⟩
  rw [← hW] at T1 T2 T3
  have z1 := T1.lt
  have z2 := T2.lt
  have zs : W.heap.size = w.heap.size + 1 + 1 := by rw [hW]; simp
  have KS : Hid (∀ X, Below W.heap.size W X → X.cell? ⟨w.heap.size, 0, none⟩ = some (.slice fA p.funcs.length fc) ∧ X.cell? ⟨w.heap.size, 1, none⟩ = some (.int .i64 p.mutexes) ∧ X.cell? ⟨w.heap.size, 2, none⟩ = some (.slice cA p.conds.length cc) ∧ X.cell? ⟨w.heap.size, 3, none⟩ = some (.slice sA p.semas.length sc) ∧ X.cell? ⟨w.heap.size, 4, none⟩ = some (.slice hA p.chans.length hc) ∧ X.cell? ⟨w.heap.size, 5, none⟩ = some (.slice xA p.choices.length xc) ∧ X.cell? ⟨w.heap.size, 6, none⟩ = some (.int .i64 p.threads)) := by
    intro X hX
    exact ⟨(hX.cell (p := ⟨w.heap.size, 0, none⟩) (show w.heap.size < W.heap.size by omega)).trans ((T1.cell 0).trans rfl), (hX.cell (p := ⟨w.heap.size, 1, none⟩) (show w.heap.size < W.heap.size by omega)).trans ((T1.cell 1).trans rfl), (hX.cell (p := ⟨w.heap.size, 2, none⟩) (show w.heap.size < W.heap.size by omega)).trans ((T1.cell 2).trans rfl), (hX.cell (p := ⟨w.heap.size, 3, none⟩) (show w.heap.size < W.heap.size by omega)).trans ((T1.cell 3).trans rfl), (hX.cell (p := ⟨w.heap.size, 4, none⟩) (show w.heap.size < W.heap.size by omega)).trans ((T1.cell 4).trans rfl), (hX.cell (p := ⟨w.heap.size, 5, none⟩) (show w.heap.size < W.heap.size by omega)).trans ((T1.cell 5).trans rfl), (hX.cell (p := ⟨w.heap.size, 6, none⟩) (show w.heap.size < W.heap.size by omega)).trans ((T1.cell 6).trans rfl)⟩
  have RX : Hid (∀ X, Below W.heap.size W X → RP X w.heap.size ⟨fA, fc, cA, cc, sA, sc, hA, hc, xA, xc⟩ p) := fun X hX => (hr.more hB).below (T3.trans (hX.mono (by omega)))
  have HW := Lib.hid hW.symm; have HT3 := Lib.hid T3; have HT1 := Lib.hid T1; have HT2 := Lib.hid T2; have HL := Lib.hid hl; have HZS := Lib.hid zs; have HRP := Lib.hid hr
  have C_conds : Hid (∀ X, Below W.heap.size W X → Calls Try.prog 51 #[.slice cA p.conds.length cc] X fun e w' => ∃ A' c', e = .returned (.slice A' p.conds.length c') ∧ w'.ownsRow X.heap.size 3 1 (.slice A' p.conds.length c') p.conds.length (IS p.conds) ∧ Below X.heap.size X w' ∧ Below W.heap.size W w') := fun X hX =>
    (ownI_any p.conds X w.heap.size cA p.conds.length cc (RX.out X hX).conds (by have := hX.size; omega) (by have := hl.conds; omega)).mono fun e w' ⟨A', c', h1, h2, h3⟩ => ⟨A', c', h1, h2, h3, hX.trans (h3.mono hX.size)⟩
  have C_semas : Hid (∀ X, Below W.heap.size W X → Calls Try.prog 51 #[.slice sA p.semas.length sc] X fun e w' => ∃ A' c', e = .returned (.slice A' p.semas.length c') ∧ w'.ownsRow X.heap.size 3 1 (.slice A' p.semas.length c') p.semas.length (IS p.semas) ∧ Below X.heap.size X w' ∧ Below W.heap.size W w') := fun X hX =>
    (ownI_any p.semas X w.heap.size sA p.semas.length sc (RX.out X hX).semas (by have := hX.size; omega) (by have := hl.semas; omega)).mono fun e w' ⟨A', c', h1, h2, h3⟩ => ⟨A', c', h1, h2, h3, hX.trans (h3.mono hX.size)⟩
  have C_chans : Hid (∀ X, Below W.heap.size W X → Calls Try.prog 51 #[.slice hA p.chans.length hc] X fun e w' => ∃ A' c', e = .returned (.slice A' p.chans.length c') ∧ w'.ownsRow X.heap.size 3 1 (.slice A' p.chans.length c') p.chans.length (IS p.chans) ∧ Below X.heap.size X w' ∧ Below W.heap.size W w') := fun X hX =>
    (ownI_any p.chans X w.heap.size hA p.chans.length hc (RX.out X hX).chans (by have := hX.size; omega) (by have := hl.chans; omega)).mono fun e w' ⟨A', c', h1, h2, h3⟩ => ⟨A', c', h1, h2, h3, hX.trans (h3.mono hX.size)⟩
  clear hr hl hW T1 T2 T3 zs
  have hbq := Below.refl W.heap.size W
  obtain ⟨p0, p1, p2, p3, p4, p5, p6⟩ := KS.out W hbq
  go_enter Try.func15, Try.ntmps15
  go_upto_region 1 with fail
  rw [HW.out]
  go_cut [3] (fun s3 wx => CutC w ⟨fA, fc, cA, cc, sA, sc, hA, hc, xA, xc⟩ p s3 wx)
  case first =>
    go_region_held3 (fun X => X.cell? ⟨w.heap.size, 0, none⟩ = some (.slice fA p.funcs.length fc) ∧ X.cell? ⟨w.heap.size, 1, none⟩ = some (.int .i64 p.mutexes) ∧ X.cell? ⟨w.heap.size, 2, none⟩ = some (.slice cA p.conds.length cc) ∧ X.cell? ⟨w.heap.size, 3, none⟩ = some (.slice sA p.semas.length sc) ∧ X.cell? ⟨w.heap.size, 4, none⟩ = some (.slice hA p.chans.length hc) ∧ X.cell? ⟨w.heap.size, 5, none⟩ = some (.slice xA p.choices.length xc) ∧ X.cell? ⟨w.heap.size, 6, none⟩ = some (.int .i64 p.threads))
      (first | (exact KS.out _ (by repeat (first | with_reducible assumption | with_reducible exact Below.refl _ _ | with_reducible refine Below.drew ?_ | with_reducible refine Below.setCell ?_ (by first | omega | (simp; done) | (simp; omega)) _ | with_reducible refine Below.alloc ?_ (by first | (simp; omega) | omega) _))) | go_keep)
      ((go_simp
        first
        | (refine (C_conds.out _ (by repeat (first | with_reducible assumption | with_reducible exact Below.refl _ _ | with_reducible refine Below.drew ?_ | with_reducible refine Below.setCell ?_ (by first | omega | (simp; done) | (simp; omega)) _ | with_reducible refine Below.alloc ?_ (by first | (simp; omega) | omega) _))).mono ?_
           rintro e w6 ⟨A6, c6, rfl, ho6, hi6, hb6⟩
           have zb6 := hb6.size
           have zi6 := hi6.size
           try simp at zi6
           obtain ⟨hc6, hf6⟩ := bcell2 hi6
           try (have zc6 : W.heap.size < w6.heap.size := by omega))
        | (refine (C_semas.out _ (by repeat (first | with_reducible assumption | with_reducible exact Below.refl _ _ | with_reducible refine Below.drew ?_ | with_reducible refine Below.setCell ?_ (by first | omega | (simp; done) | (simp; omega)) _ | with_reducible refine Below.alloc ?_ (by first | (simp; omega) | omega) _))).mono ?_
           rintro e w7 ⟨A7, c7, rfl, ho7, hi7, hb7⟩
           have zb7 := hb7.size
           have zi7 := hi7.size
           try simp at zi7
           obtain ⟨hc7, hf7⟩ := bcell2 hi7
           try (have zx7 : w6.heap.size < w7.heap.size := by omega)
           try (have zc7 : W.heap.size < w7.heap.size := by omega))
        | (refine (C_chans.out _ (by repeat (first | with_reducible assumption | with_reducible exact Below.refl _ _ | with_reducible refine Below.drew ?_ | with_reducible refine Below.setCell ?_ (by first | omega | (simp; done) | (simp; omega)) _ | with_reducible refine Below.alloc ?_ (by first | (simp; omega) | omega) _))).mono ?_
           rintro e w8 ⟨A8, c8, rfl, ho8, hi8, hb8⟩
           have zb8 := hb8.size
           have zi8 := hi8.size
           try simp at zi8
           obtain ⟨hc8, hf8⟩ := bcell2 hi8
           try (have zx8 : w7.heap.size < w8.heap.size := by omega)
           try (have zc8 : w6.heap.size < w8.heap.size := by omega)
           try (have zd8 : W.heap.size < w8.heap.size := by omega))))
    all_goals
      have HR3 := Lib.hid (rows3 (base := w.heap.size + 1 + 1) ho6 (by first | exact hi7 | exact ((Below.refl _ _).alloc (Nat.le_refl _) _).trans (hi7.mono (by simp))) ho7 (by first | exact Nat.le_refl _ | (simp; done)) (by first | exact hi8 | exact ((Below.refl _ _).alloc (Nat.le_refl _) _).trans (hi8.mono (by simp))) ho8 (by first | exact Nat.le_refl _ | (simp; done)) (by have := HZS.out; first | omega | (simp; omega)) (by have := HZS.out; first | omega | (simp; omega)) (by have := HZS.out; first | omega | (simp; omega)))
      go_wp2_with fail
      go_meet
      refine ⟨_, .slice A6 p.conds.length c6, .slice A7 p.semas.length c7, .slice A8 p.chans.length c8, rfl, ?_⟩
      first
        | (with_reducible refine cl_new ?_ ?_ ?_ ?_ hb8 ?_
           · exact HT1.out
           · exact HT2.out
           · exact HT3.out
           · exact HZS.out
           · exact HR3.out)
        | (with_reducible refine cl_set (gq := w7.heap.size) ?_ ?_ ?_ ?_ hb8 ?_ ?_ ?_
           · exact HT1.out
           · exact HT2.out
           · exact HT3.out
           · exact HZS.out
           · omega
           · exact ((Blk.new w7 _ _).below hi8 (by simp))
           · exact HR3.out)
        | (with_reducible refine cl_set (gq := w6.heap.size) ?_ ?_ ?_ ?_ hb8 ?_ ?_ ?_
           · exact HT1.out
           · exact HT2.out
           · exact HT3.out
           · exact HZS.out
           · omega
           · exact (((Blk.new w6 _ _).below hi7 (by simp)).below hi8 (by omega))
           · exact HR3.out)
        | (with_reducible refine cl_set (gq := W.heap.size) ?_ ?_ ?_ ?_ hb8 ?_ ?_ ?_
           · exact HT1.out
           · exact HT2.out
           · exact HT3.out
           · exact HZS.out
           · omega
           · exact ((((Blk.new W _ _).drew.below hi6 (by simp)).below hi7 (by omega)).below hi8 (by omega))
           · exact HR3.out)
  case rest =>
    obtain ⟨gq, vc, vs, vh, rfl, g⟩ := hcut
    have RY : Hid (∀ X, Below w.heap.size w X → RP X w.heap.size ⟨fA, fc, cA, cc, sA, sc, hA, hc, xA, xc⟩ p) := fun X hX => (HRP.out.more hB).below hX
    clear C_conds C_semas C_chans KS RX HW HT3 HT1 HT2 HZS p0 p1 p2 p3 p4 p5 p6 hbq
    have c0 : wc.cell? ⟨w.heap.size, 0, none⟩ = some (.slice fA p.funcs.length fc) := (g.pb.cell 0).trans rfl
    have hfl := HL.out.funcs
    have hxl := HL.out.choices
    have zg := g.gl
    have HG := Lib.hid g
    clear g z1 z2
    go_wp2_with fail
    clear c0
    go_loopw [25] (fun s wr => RelCF w ⟨fA, fc, cA, cc, sA, sc, hA, hc, xA, xc⟩ p gq vc vs vh s wr) (fun s _ => p.funcs.length - (intOf s).toNat)
    case atStart => exact ⟨0, by omega, rfl, _, [], HG.out, rfl⟩
    case round =>
      clear HG
      obtain ⟨k, hk, rfl, vf, fs, g, hfs⟩ := hrel
      have G := Lib.hid g
      have hfn : fs.length = k := by rw [← List.length_map (f := TF.f), hfs, List.length_take]; omega
      have hfb : fs.length ≤ 1000 := by omega
      clear hfn
      by_cases hlt : k < p.funcs.length
      · obtain ⟨ad, t, hAd, hb0, hz, d0, d1, hrc⟩ := (RY.out wr g.bel).funcs.at_ hlt
        subst hAd
        have htc := HL.out.code _ (List.mem_of_getElem? hz)
        have HFK : Hid ((fs ++ [(⟨t.f, t.A, t.c⟩ : TF)]).map TF.f = p.funcs.take (k + 1)) := by
          show _ = _
          rw [List.map_append, hfs, List.take_add_one, hz]; rfl
        have zr := g.bel.size
        have zo := g.ob.lt
        obtain ⟨Wf, hWf⟩ : ∃ X, X = wr.alloc (.cells #[.int .i64 t.f.locals, .slice t.A t.f.code.length t.c] 45) := ⟨_, rfl⟩
        have hba : Below wr.heap.size wr Wf := by rw [hWf]; exact (Below.refl _ _).alloc (Nat.le_refl _) _
        have hbf : Blk Wf wr.heap.size 45 #[.int .i64 t.f.locals, .slice t.A t.f.code.length t.c] := by rw [hWf]; exact Blk.new _ _ _
        have zf : Wf.heap.size = wr.heap.size + 1 := by rw [hWf]; simp
        have hob := (g.below hba).ob
        have hkx : ∀ X, Below Wf.heap.size Wf X → X.cell? ⟨gq, 0, none⟩ = some vf ∧ X.cell? ⟨wr.heap.size, 0, none⟩ = some (.int .i64 t.f.locals) ∧ X.cell? ⟨wr.heap.size, 1, none⟩ = some (.slice t.A t.f.code.length t.c) ∧ X.frozen? ⟨gq, 0, none⟩ = false := fun X hX =>
          ⟨((hob.below hX hob.lt).cell 0).trans rfl, ((hbf.below hX hbf.lt).cell 0).trans rfl, ((hbf.below hX hbf.lt).cell 1).trans rfl, (hob.below hX hob.lt).frozen 0⟩
        have hop : ∀ X, Below Wf.heap.size Wf X → X.ownsRow (w.heap.size + 1 + 1) 45 2 vf fs.length (FS fs) ∧ Blk X gq 26 #[vf, .int .i64 p.mutexes, vc, vs, vh, .slice none 0 0, .int .i64 p.threads] := fun X hX =>
          ⟨(Fr.of_below hX).own ((g.below hba).op.frow) (fun i hi => by have := ((g.below hba).op.frow.lt i hi).2; omega), hob.below hX hob.lt⟩
        have hcon : ∀ X, Below Wf.heap.size Wf X → Calls Try.prog 52 #[.slice t.A t.f.code.length t.c] X fun e w' => ∃ A6 c6, e = .returned (.slice A6 t.f.code.length c6) ∧ w'.ownsRow wr.heap.size 47 2 (.slice A6 t.f.code.length c6) t.f.code.length (CS t.f.code) ∧ Below Wf.heap.size Wf w' := fun X hX =>
          (ownC_any t.f.code X w.heap.size t.A t.f.code.length t.c (hrc.keep fun q hq => (((Below.refl wr.heap.size wr).trans hba).trans (hX.mono (by omega))).cell (p := q) (by omega)) (by have := hX.size; omega) (by omega)).mono fun e w' ⟨A6, c6, h1, h2, h3⟩ => ⟨A6, c6, h1, own_mono h2 (by have := hX.size; omega), hX.trans (h3.mono hX.size)⟩
        have HKX := Lib.hid hkx; have HOP := Lib.hid hop; have HCON := Lib.hid hcon; have HBA := Lib.hid hba; have HWf := Lib.hid hWf.symm
        obtain ⟨i0, hi0, hz0, hz1, hz2⟩ := info_parts info_func
        clear hkx hop hcon hba hbf hob hWf hz hrc g hfs
        go_upto_region 5 with fail
        rw [HWf.out]
        have hbq := Below.refl Wf.heap.size Wf
        obtain ⟨s0, s1, s2, s3⟩ := HKX.out Wf hbq
        go_region_law (first
          | (refine step_append_any _ (by rfl) (.tmp 30) (.tmp 37) _ (by rfl) (w.heap.size + 1 + 1) 45 i0 _ 2 32 Try.underlying22 hi0 hz0 hz1 hz2 rfl (by decide) vf fs.length (FS fs) (by rfl) (HOP.out _ (by repeat (first | with_reducible assumption | with_reducible exact Below.refl _ _ | with_reducible refine Below.drew ?_ | with_reducible refine Below.setCell ?_ (by first | omega | (simp; done) | (simp; omega)) _ | with_reducible refine Below.alloc ?_ (by first | (simp; omega) | omega) _))).1 (w6.heap.size + 1) (some ⟨w6.heap.size, 0, none⟩) 1 1 [.int .i64 t.f.locals, .slice A6 t.f.code.length c6] (by rfl) (by first | exact reads_new2 _ _ _ _ | exact (reads_new2 _ _ _ _).drew) (by intro u hu; simp at hu; rcases hu with rfl | rfl <;> rfl) (by unfold maxLen; omega) (by omega) (by first | omega | (simp; omega)) ?_
             intro v3 w3 hown3 hg3 hat3
             obtain ⟨A9, c9, rfl, _, _⟩ := own_slice hown3
             have hbk := (HOP.out _ (by repeat (first | with_reducible assumption | with_reducible exact Below.refl _ _ | with_reducible refine Below.drew ?_ | with_reducible refine Below.setCell ?_ (by first | omega | (simp; done) | (simp; omega)) _ | with_reducible refine Below.alloc ?_ (by first | (simp; omega) | omega) _))).2.grown hg3 (fun e => own_blk_ne (HOP.out _ (by repeat (first | with_reducible assumption | with_reducible exact Below.refl _ _ | with_reducible refine Below.drew ?_ | with_reducible refine Below.setCell ?_ (by first | omega | (simp; done) | (simp; omega)) _ | with_reducible refine Below.alloc ?_ (by first | (simp; omega) | omega) _))).1 (HOP.out _ (by repeat (first | with_reducible assumption | with_reducible exact Below.refl _ _ | with_reducible refine Below.drew ?_ | with_reducible refine Below.setCell ?_ (by first | omega | (simp; done) | (simp; omega)) _ | with_reducible refine Below.alloc ?_ (by first | (simp; omega) | omega) _))).2 (by decide) e.symm)
             have y0 := (hbk.cell 0).trans rfl
             have yf := hbk.frozen 0)
          | (go_simp
             refine (HCON.out _ (by repeat (first | with_reducible assumption | with_reducible exact Below.refl _ _ | with_reducible refine Below.drew ?_ | with_reducible refine Below.setCell ?_ (by first | omega | (simp; done) | (simp; omega)) _ | with_reducible refine Below.alloc ?_ (by first | (simp; omega) | omega) _))).mono ?_
             rintro e w6 ⟨A6, c6, rfl, ho6, hb6⟩
             have zb6 := hb6.size
             have zgq : gq < w6.heap.size := by omega
             obtain ⟨s4, s5, s6, s7⟩ := HKX.out w6 hb6)
          | fail)
        all_goals
          have HP := Lib.hid (G.out.pushF (HBA.out.trans (hb6.mono (by omega))) ⟨t.f, A6, c6⟩ ho6 (by first | exact (Below.refl _ _).alloc (Nat.le_refl _) _ | exact ((Below.refl _ _).alloc (Nat.le_refl _) _).drew | exact (Below.refl _ _).drew.alloc (Nat.le_refl _) _) hg3 hown3)
          have HF2 : Hid ((fs ++ [(⟨t.f, A6, c6⟩ : TF)]).map TF.f = p.funcs.take (k + 1)) := by
            show _ = _
            rw [← HFK.out]; simp
          clear hown3 hg3 hat3 hbk
          go_wp2_with fail
          refine ⟨⟨k + 1, ?_, ?_, .slice A9 (fs.length + 1) c9, fs ++ [(⟨t.f, A6, c6⟩ : TF)], ?_, ?_⟩, ?_⟩
          · omega
          · go_num
          · exact HP.out
          · exact HF2.out
          · simp [intOf]; omega
      · have hke : k = p.funcs.length := by omega
        have hfa : fs.map TF.f = p.funcs := by rw [hfs, List.take_of_length_le (by omega)]
        have HFA := Lib.hid hfa
        have c5 : wr.cell? ⟨w.heap.size, 5, none⟩ = some (.slice xA p.choices.length xc) := (g.pb.cell 5).trans rfl
        clear hfs hfa g hke
        go_wp2_with fail
        clear c5
        go_loopw [44] (fun s wr => RelCL w ⟨fA, fc, cA, cc, sA, sc, hA, hc, xA, xc⟩ p gq vf vc vs vh fs s wr) (fun s _ => p.choices.length - (intOf s).toNat)
        case atStart => exact ⟨0, by omega, rfl, _, [], G.out, rfl⟩
        case round =>
          clear G
          obtain ⟨j, hj, rfl, vx, ls, g, hls⟩ := hrel
          have G := Lib.hid g
          have hln : ls.length = j := by rw [← List.length_map (f := TL.l), hls, List.length_take]; omega
          have hlb : ls.length ≤ 1000 := by omega
          clear hln
          by_cases hlt2 : j < p.choices.length
          · obtain ⟨ad, t, hAd, hb0, hz, d0, hri⟩ := (RY.out wr g.bel).choices.at_ hlt2
            subst hAd
            have htc := HL.out.each _ (List.mem_of_getElem? hz)
            have HLK : Hid (ls.map TL.l ++ [t.l] = p.choices.take (j + 1)) := by
              show _ = _
              rw [hls, List.take_add_one, hz]; rfl
            have zr := g.bel.size
            have zo := g.ob.lt
            have hob := g.ob
            have hkx : ∀ X, Below wr.heap.size wr X → X.cell? ⟨gq, 5, none⟩ = some vx ∧ X.frozen? ⟨gq, 5, none⟩ = false := fun X hX =>
              ⟨((hob.below hX hob.lt).cell 5).trans rfl, (hob.below hX hob.lt).frozen 5⟩
            have hop : ∀ X, Below wr.heap.size wr X → X.ownsRow (w.heap.size + 1 + 1) 23 1 vx ls.length (LS ls) ∧ Blk X gq 26 #[vf, .int .i64 p.mutexes, vc, vs, vh, vx, .int .i64 p.threads] := fun X hX =>
              ⟨(Fr.of_below hX).own (g.op.lrow) (fun i hi => by have := (g.op.lrow.lt i hi).2; omega), hob.below hX hob.lt⟩
            have hcon : ∀ X, Below wr.heap.size wr X → Calls Try.prog 51 #[.slice t.A t.l.length t.c] X fun e w' => ∃ A6 c6, e = .returned (.slice A6 t.l.length c6) ∧ w'.ownsRow wr.heap.size 3 1 (.slice A6 t.l.length c6) t.l.length (IS t.l) ∧ Below wr.heap.size wr w' := fun X hX =>
              (ownI_any t.l X w.heap.size t.A t.l.length t.c (hri.keep fun q hq => hX.cell (p := q) (by omega)) (by have := hX.size; omega) (by omega)).mono fun e w' ⟨A6, c6, h1, h2, h3⟩ => ⟨A6, c6, h1, own_mono h2 hX.size, hX.trans (h3.mono hX.size)⟩
            have HKX := Lib.hid hkx; have HOP := Lib.hid hop; have HCON := Lib.hid hcon
            obtain ⟨i0, hi0, hz0, hz1, hz2⟩ := info_parts info_ints
            clear hkx hop hcon hob hz hri g hls
            go_upto_region 10 with fail
            have hbq := Below.refl wr.heap.size wr
            obtain ⟨s0, s1⟩ := HKX.out wr hbq
            go_region_law (first
              | (refine step_append_any _ (by rfl) (.tmp 49) (.tmp 52) _ (by rfl) (w.heap.size + 1 + 1) 23 i0 _ 1 24 Try.underlying24 hi0 hz0 hz1 hz2 rfl (by decide) vx ls.length (LS ls) (by rfl) (HOP.out _ (by repeat (first | with_reducible assumption | with_reducible exact Below.refl _ _ | with_reducible refine Below.drew ?_ | with_reducible refine Below.setCell ?_ (by first | omega | (simp; done) | (simp; omega)) _ | with_reducible refine Below.alloc ?_ (by first | (simp; omega) | omega) _))).1 (w6.heap.size + 1) (some ⟨w6.heap.size, 0, none⟩) 1 1 [.slice A6 t.l.length c6] (by rfl) (by first | exact reads_new _ _ _ | exact (reads_new _ _ _).drew) (by intro u hu; simp at hu; subst hu; rfl) (by unfold maxLen; omega) (by omega) (by first | omega | (simp; omega)) ?_
                 intro v3 w3 hown3 hg3 hat3
                 obtain ⟨A9, c9, rfl, _, _⟩ := own_slice hown3
                 have hbk := (HOP.out _ (by repeat (first | with_reducible assumption | with_reducible exact Below.refl _ _ | with_reducible refine Below.drew ?_ | with_reducible refine Below.setCell ?_ (by first | omega | (simp; done) | (simp; omega)) _ | with_reducible refine Below.alloc ?_ (by first | (simp; omega) | omega) _))).2.grown hg3 (fun e => own_blk_ne (HOP.out _ (by repeat (first | with_reducible assumption | with_reducible exact Below.refl _ _ | with_reducible refine Below.drew ?_ | with_reducible refine Below.setCell ?_ (by first | omega | (simp; done) | (simp; omega)) _ | with_reducible refine Below.alloc ?_ (by first | (simp; omega) | omega) _))).1 (HOP.out _ (by repeat (first | with_reducible assumption | with_reducible exact Below.refl _ _ | with_reducible refine Below.drew ?_ | with_reducible refine Below.setCell ?_ (by first | omega | (simp; done) | (simp; omega)) _ | with_reducible refine Below.alloc ?_ (by first | (simp; omega) | omega) _))).2 (by decide) e.symm)
                 have y0 := (hbk.cell 5).trans rfl
                 have yf := hbk.frozen 5)
              | (go_simp
                 refine (HCON.out _ (by repeat (first | with_reducible assumption | with_reducible exact Below.refl _ _ | with_reducible refine Below.drew ?_ | with_reducible refine Below.setCell ?_ (by first | omega | (simp; done) | (simp; omega)) _ | with_reducible refine Below.alloc ?_ (by first | (simp; omega) | omega) _))).mono ?_
                 rintro e w6 ⟨A6, c6, rfl, ho6, hb6⟩
                 have zb6 := hb6.size
                 have zgq : gq < w6.heap.size := by omega
                 obtain ⟨s4, s5⟩ := HKX.out w6 hb6)
              | fail)
            all_goals
              have HP := Lib.hid (G.out.pushL hb6 ⟨t.l, A6, c6⟩ ho6 (by first | exact (Below.refl _ _).alloc (Nat.le_refl _) _ | exact ((Below.refl _ _).alloc (Nat.le_refl _) _).drew | exact (Below.refl _ _).drew.alloc (Nat.le_refl _) _) hg3 hown3)
              have HF2 : Hid ((ls ++ [(⟨t.l, A6, c6⟩ : TL)]).map TL.l = p.choices.take (j + 1)) := by
                show _ = _
                rw [← HLK.out]; simp
              clear hown3 hg3 hat3 hbk
              go_wp2_with fail
              refine ⟨⟨j + 1, ?_, ?_, .slice A9 (ls.length + 1) c9, ls ++ [(⟨t.l, A6, c6⟩ : TL)], ?_, ?_⟩, ?_⟩
              · omega
              · go_num
              · exact HP.out
              · exact HF2.out
              · simp [intOf]; omega
          · have hla : ls.map TL.l = p.choices := by rw [hls, List.take_of_length_le (by omega)]
            have HLA := Lib.hid hla
            obtain ⟨⟨fA', fc', cA', cc', sA', sc', hA', hc', xA', xc'⟩, rfl, rfl, rfl, rfl, rfl, _⟩ := g.op.rp 0 0
            have rc := g.rb.cell
            have r0 := (rc 0).trans rfl
            have r1 := (rc 1).trans rfl
            have r2 := (rc 2).trans rfl
            have r3 := (rc 3).trans rfl
            have r4 := (rc 4).trans rfl
            have r5 := (rc 5).trans rfl
            have r6 := (rc 6).trans rfl
            have y0 := g.rb.frozen 0
            have y1 := g.rb.frozen 1
            have y2 := g.rb.frozen 2
            have y3 := g.rb.frozen 3
            have y4 := g.rb.frozen 4
            have y5 := g.rb.frozen 5
            have y6 := g.rb.frozen 6
            have o0 := (g.ob.cell 0).trans rfl
            have o1 := (g.ob.cell 1).trans rfl
            have o2 := (g.ob.cell 2).trans rfl
            have o3 := (g.ob.cell 3).trans rfl
            have o4 := (g.ob.cell 4).trans rfl
            have o5 := (g.ob.cell 5).trans rfl
            have o6 := (g.ob.cell 6).trans rfl
            have zrb := g.rb.lt
            clear g hls rc hla
            go_wp2_with fail
            refine bodyPost_ret (v := .agg #[.slice fA' fs.length fc', .int .i64 p.mutexes, .slice cA' p.conds.length cc', .slice sA' p.semas.length sc', .slice hA' p.chans.length hc', .slice xA' ls.length xc', .int .i64 p.threads]) (by simp [results, Try.results15, go_sem, r0, r1, r2, r3, r4, r5, r6]) rfl ?_
            have hfr := ((((((((Fr.refl (fun i => i = w.heap.size + 1) wr).setCell (p := ⟨w.heap.size + 1, 0, none⟩) (.inl rfl) (.slice fA' fs.length fc')).setCell (p := ⟨w.heap.size + 1, 1, none⟩) (.inl rfl) (.int .i64 p.mutexes)).setCell (p := ⟨w.heap.size + 1, 2, none⟩) (.inl rfl) (.slice cA' p.conds.length cc')).setCell (p := ⟨w.heap.size + 1, 3, none⟩) (.inl rfl) (.slice sA' p.semas.length sc')).setCell (p := ⟨w.heap.size + 1, 4, none⟩) (.inl rfl) (.slice hA' p.chans.length hc')).setCell (p := ⟨w.heap.size + 1, 5, none⟩) (.inl rfl) (.slice xA' ls.length xc')).setCell (p := ⟨w.heap.size + 1, 6, none⟩) (.inl rfl) (.int .i64 p.threads))
            refine ⟨_, _, _, _, _, fs, ls, rfl, ?_, HFA.out, HLA.out, ?_⟩
            · exact (G.out.op.fr hfr (fun i hi e => by omega)).mono (by omega)
            · exact G.out.bel.trans (hfr.below (by omega) (fun i hi => by omega))
end Go.Proofs.Ytmjbfobjndiecaa
