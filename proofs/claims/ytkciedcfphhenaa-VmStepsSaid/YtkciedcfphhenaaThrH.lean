
/-
  Pop, Leave, End: of the program; End of the document.
-/
import Derived.Test.YtkciedcfphhenaaThrE
set_option linter.unusedVariables false
set_option linter.unusedSimpArgs false
namespace Go.Proofs.Ytkciedcfphhenaa
open Go.RowKit Plain

section
variable {P : Program}
/-- Results: a variable that lies in memory, and two in slots. -/
theorem results_cell_slots {fn : Func} {p q q2 : Tmp} {ty : TypeId} (h : fn.results = #[.cell p ty, .tmp q, .tmp q2]) (tmps : Array Value) (w : World) (g : Nat) (t : TypeId) (cs : Array Value) (fr : Nat × Nat) (d : TypeDesc) (u u2 : Value)
    (hp : tmps.getD p undef = .pointer (some ⟨g, 0, none⟩)) (hq : tmps.getD q undef = u) (hq2 : tmps.getD q2 undef = u2) (hg : w.heap[g]? = some (.cells cs t fr))
    (hu : P.underlying ty = some d) (hd : (match d with | .struct _ | .array _ _ => true | _ => false) = true) (hi : (P.info? ty).map (·.size) = some cs.size) :
    (results fn tmps).run P w = .ok (.tuple #[.agg cs, u, u2]) w := by
  have hp' : tmps[p]?.getD undef = .pointer (some ⟨g, 0, none⟩) := by simpa using hp
  have hq' : tmps[q]?.getD undef = u := by simpa using hq
  have hq2' : tmps[q2]?.getD undef = u2 := by simpa using hq2
  simp [results, h, hp', hq', hq2', asAddr, run_loadVar_row w g t ty cs fr d hg hu hd hi]
end
theorem RID.take {w : World} {D : Nat → Prop} {A : Option Addr} {n c k : Nat} {l : List Int} (h : RID w D A n c l) (hk : k ≤ n) : RID w D A k k (l.take k) := by
  obtain ⟨h1, h2, h3⟩ := h
  refine ⟨by simp; omega, Nat.le_refl _, by rw [IS_length]; simp; omega, fun h0 => ?_⟩
  obtain ⟨ad, e, hb, hc⟩ := h3.2 (by omega)
  refine ⟨ad, e, hb, fun j u hj => hc j u ?_⟩
  have hjk : j < k := by
    have := (List.getElem?_eq_some_iff.1 hj).1
    rw [IS_length] at this
    simp at this
    omega
  rw [← hj]
  simp [IS, hjk]
theorem take_at {α : Type} {l : List α} {k j : Nat} {x : α} (h : (l.take k)[j]? = some x) : l[j]? = some x := by
  rw [List.getElem?_take] at h
  split at h
  · exact h
  · cases h
theorem RGD.take {w : World} {D : Nat → Prop} {A : Option Addr} {n c k : Nat} {l : List FrV} (h : RGD w D A n c l) (hk : k ≤ n) : RGD w D A k k (l.take k) := by
  obtain ⟨ts, h1, h2, h3, h4, h5⟩ := h
  have hl : ts.length = n := by rw [← h2, ← h1, List.length_map]
  refine ⟨ts.take k, by rw [List.map_take, h1], by simp; omega, Nat.le_refl _, ⟨by rw [FrS_length]; simp; omega, fun h0 => ?_⟩, fun t ht => h5 t (List.mem_of_mem_take ht)⟩
  obtain ⟨ad, e, hb, hc⟩ := h4.2 (by omega)
  refine ⟨ad, e, hb, fun j u hj => hc j u ?_⟩
  obtain ⟨i, p, hp, hcase⟩ := flat3_get _ j u hj
  have hp2 : (ts.map TFr.cells)[i]? = some p := by rw [List.map_take] at hp; exact take_at hp
  have := flat3_at _ i p hp2
  rcases hcase with ⟨rfl, rfl⟩ | ⟨rfl, rfl⟩ | ⟨rfl, rfl⟩
  · exact this.1
  · exact this.2.1
  · exact this.2.2

set_option maxHeartbeats 4000000 in
set_option maxRecDepth 100000 in
theorem pop_yes (h : TH) (t : TV) (k : Nat) (z : Int) (w : World) (D : Nat → Prop) (hr : RT w D h t) (hl : LensT t) (hroom : t.stack.length = k + 1 ∧ k < 1000000 ∧ t.stack[k]? = some z) :
    Calls Try.prog 90 #[.agg #[.int .i64 t.state, .int .i64 t.on, .slice h.fA t.frames.length h.fc, .slice h.sA t.stack.length h.sc, .int .i64 t.code]] w
      fun e w' => ∃ h' : TH, e = .returned (.tuple #[.agg #[.int .i64 t.state, .int .i64 t.on, .slice h'.fA t.frames.length h'.fc, .slice h'.sA k h'.sc, .int .i64 t.code], .int .i64 z, .bool true]) ∧ RT w' (fun i => D i ∨ w.heap.size ≤ i) h' { t with stack := t.stack.take k } ∧ Below w.heap.size w w' := by
  obtain ⟨i0, hi0, hz0, hz1, hz2⟩ := info_parts info_int
  have hshare := fun (W : World) (hW : RT W (fun i => D i ∧ i < w.heap.size) h t) => share_any h t W _ hW hl
  have HS := Lib.hid hshare
  obtain ⟨fA, fc, sA, sc⟩ := h
  have HR := Lib.hid hr.cut
  have HROOM := Lib.hid hroom
  clear hr hshare hl hroom
  go_enter Try.func90, Try.ntmps90
  go_wp2_with fail
  refine (HS.out _ ((HR.out.alloc _).alloc _)).mono ?_
  rintro e w1 ⟨A', c', ts, rfl, hown, hfs, heach, hb⟩
  obtain ⟨W2, hW2⟩ : ∃ W, W = (w.alloc (.cells #[.int .i64 t.state, .int .i64 t.on, .slice fA t.frames.length fc, .slice sA t.stack.length sc, .int .i64 t.code] 29)).alloc (.cells #[.int .i64 0, .int .i64 0, .slice none 0 0, .slice none 0 0, .int .i64 0] 29) := ⟨_, rfl⟩
  have hz : W2.heap.size = w.heap.size + 1 + 1 := by rw [hW2]; simp
  have hbx2 : Blk W2 w.heap.size 29 #[.int .i64 t.state, .int .i64 t.on, .slice fA t.frames.length fc, .slice sA t.stack.length sc, .int .i64 t.code] := by rw [hW2]; exact (Blk.new w _ _).alloc _
  have hrb2 : Blk W2 (w.heap.size + 1) 29 #[.int .i64 0, .int .i64 0, .slice none 0 0, .slice none 0 0, .int .i64 0] := by rw [hW2]; simpa using Blk.new (w.alloc (.cells #[.int .i64 t.state, .int .i64 t.on, .slice fA t.frames.length fc, .slice sA t.stack.length sc, .int .i64 t.code] 29)) 29 #[.int .i64 0, .int .i64 0, .slice none 0 0, .slice none 0 0, .int .i64 0]
  have hbel2 : Below w.heap.size w W2 := by rw [hW2]; exact ((Below.refl w.heap.size w).alloc (Nat.le_refl _) _).alloc (by simp) _
  rw [← hW2] at hown hb heach
  have hri2 : RT W2 (fun i => D i ∧ i < w.heap.size) ⟨fA, fc, sA, sc⟩ t := by rw [hW2]; exact (HR.out.alloc _).alloc _
  clear hW2
  rw [hz] at hown hb
  have hsz := hb.size
  rw [hz] at hsz
  have hbx1 := hbx2.below hb (by omega)
  have hrb1 := hrb2.below hb (by omega)
  have hbel1 : Below w.heap.size w w1 := hbel2.trans (hb.mono (by omega))
  have hst1 : RID w1 (fun i => D i ∧ i < w.heap.size) sA t.stack.length sc t.stack := (hri2.stack).keep fun p hd _ => hb.cell (by omega)
  have hea1 : ∀ x ∈ ts, x.c = x.f.locals.length ∧ RID w1 (fun i => D i ∧ i < w.heap.size) x.A x.f.locals.length x.f.locals.length x.f.locals := fun x hx => ⟨(heach x hx).1, (heach x hx).2.keep fun p hd _ => hb.cell (by omega)⟩
  have x0 := (hbx1.cell 0).trans rfl
  have x1 := (hbx1.cell 1).trans rfl
  have x2 := (hbx1.cell 2).trans rfl
  have x3 := (hbx1.cell 3).trans rfl
  have x4 := (hbx1.cell 4).trans rfl
  have y0 := hbx1.frozen 0
  have y1 := hbx1.frozen 1
  have y2 := hbx1.frozen 2
  have y3 := hbx1.frozen 3
  have y4 := hbx1.frozen 4
  have H1 := Lib.hid hbx1; have H2 := Lib.hid hrb1; have H3 := Lib.hid hbel1; have H4 := Lib.hid hst1; have H5 := Lib.hid hea1; have H6 := Lib.hid hown; have H7 := Lib.hid hfs
  have hlt : w.heap.size + 1 < w1.heap.size := by omega
  have hlt0 : w.heap.size < w1.heap.size := by omega
  have r0 := (H2.out.cell 0).trans rfl
  have u0 := H2.out.frozen 0
  have r1 := (H2.out.cell 1).trans rfl
  have u1 := H2.out.frozen 1
  have r2 := (H2.out.cell 2).trans rfl
  have u2 := H2.out.frozen 2
  have r3 := (H2.out.cell 3).trans rfl
  have u3 := H2.out.frozen 3
  have r4 := (H2.out.cell 4).trans rfl
  have u4 := H2.out.frozen 4
  clear hbx2 hrb2 hbel2 hri2 hown hb heach hbx1 hrb1 hbel1 hst1 hea1 hfs hsz hz
  have hsd := shd_of (w := w) H1.out H2.out (by omega) ⟨Nat.le_refl _, by omega⟩ ⟨by omega, by omega⟩ H6.out H7.out H5.out H4.out H3.out (fun i hi => hi.2)
  have G := Lib.hid hsd
  clear hsd H3 H4 H5 H6 H7
  obtain ⟨hlen, hk6, hz0⟩ := HROOM.out
  simp only [hlen] at x3 ⊢
  have HLEN := Lib.hid hlen; have HZ0 := Lib.hid hz0
  clear hz0 hlen
  go_upto_if 14 with fail
  obtain ⟨W3, hW3⟩ : ∃ W, W = (((((w1.setCell ⟨w.heap.size, 0, none⟩ (.int .i64 t.state)).setCell ⟨w.heap.size, 1, none⟩ (.int .i64 t.on)).setCell ⟨w.heap.size, 2, none⟩ (.slice A' t.frames.length c')).setCell ⟨w.heap.size, 3, none⟩ (.slice sA (k + 1) (k + 1))).setCell ⟨w.heap.size, 4, none⟩ (.int .i64 t.code)) := ⟨_, rfl⟩
  have G3 : Hid (Shd w W3 w.heap.size (w.heap.size + 1) (w.heap.size + 1 + 1) (fun i => D i ∧ i < w.heap.size) t A' c' sA ts) := by
    show Shd _ _ _ _ _ _ _ _ _ _ _
    rw [hW3, ← HLEN.out]; exact G.out
  rw [← hW3]
  clear hW3 G H1 H2 x0 y0 r0 u0 x1 y1 r1 u1 x2 y2 r2 u2 x3 y3 r3 u3 x4 y4 r4 u4 hlt hlt0
  have hb := G3.out.bx
  rw [HLEN.out] at hb
  have x0 := (hb.cell 0).trans rfl
  have y0 := hb.frozen 0
  have r0 := (G3.out.rb.cell 0).trans rfl
  have u0 := G3.out.rb.frozen 0
  have x1 := (hb.cell 1).trans rfl
  have y1 := hb.frozen 1
  have r1 := (G3.out.rb.cell 1).trans rfl
  have u1 := G3.out.rb.frozen 1
  have x2 := (hb.cell 2).trans rfl
  have y2 := hb.frozen 2
  have r2 := (G3.out.rb.cell 2).trans rfl
  have u2 := G3.out.rb.frozen 2
  have x3 := (hb.cell 3).trans rfl
  have y3 := hb.frozen 3
  have r3 := (G3.out.rb.cell 3).trans rfl
  have u3 := G3.out.rb.frozen 3
  have x4 := (hb.cell 4).trans rfl
  have y4 := hb.frozen 4
  have r4 := (G3.out.rb.cell 4).trans rfl
  have u4 := G3.out.rb.frozen 4
  have hltA : w.heap.size + 1 < W3.heap.size := G3.out.rb.lt
  have hltB : w.heap.size < W3.heap.size := by omega
  obtain ⟨ad, z', hsA, hab, hzk, hc⟩ := G3.out.stack.ri.at_ (k := k) (by rw [HLEN.out]; omega)
  rw [HZ0.out] at hzk
  injection hzk with hzk
  subst hzk
  subst hsA
  clear hb
  go_wp2_with fail
  refine (cut_ints (some ad) (k + 1) (k + 1) k _ (by omega)).mono ?_
  rintro e w5 ⟨rfl, rfl⟩
  go_wp2_with fail
  have hf := ((Fr.refl (fun i => i = w.heap.size ∨ i = w.heap.size + 1) w5).setCell (p := ⟨w.heap.size, 3, none⟩) (.inl (.inl rfl)) (.slice (some ad) k k)).set5 (g := w.heap.size + 1) (.inl (.inr rfl)) (.int .i64 t.state) (.int .i64 t.on) (.slice A' t.frames.length c') (.slice (some ad) k k) (.int .i64 t.code)
  refine bodyPost_ret (v := .tuple #[.agg #[.int .i64 t.state, .int .i64 t.on, .slice A' t.frames.length c', .slice (some ad) k k, .int .i64 t.code], .int .i64 z, .bool true]) (results_cell_slots rfl _ _ (w.heap.size + 1) 29 _ (0, 0) _ _ _ rfl rfl rfl (Blk.set5 (G3.out.rb.far (by simp) _) _ _ _ _ _) Try.underlying29 rfl (by kernel_rfl)) rfl ?_
  have hst := (G3.out.stk hf).take (k := k) (by rw [HLEN.out]; omega)
  have hlk : (t.stack.take k).length = k := by rw [List.length_take, HLEN.out]; omega
  have hrt := G3.out.rt hf (st := t.stack.take k) (cn := k) (by rw [hlk]; exact hst)
  exact ⟨⟨A', c', some ad, k⟩, rfl, hrt.1.wide, hrt.2⟩
set_option maxHeartbeats 4000000 in
set_option maxRecDepth 100000 in
theorem leave_yes (h : TH) (t : TV) (k : Nat)  (w : World) (D : Nat → Prop) (hr : RT w D h t) (hl : LensT t) (hroom : t.frames.length = k + 1 ∧ k < 1000000) :
    Calls Try.prog 96 #[.agg #[.int .i64 t.state, .int .i64 t.on, .slice h.fA t.frames.length h.fc, .slice h.sA t.stack.length h.sc, .int .i64 t.code]] w
      fun e w' => ∃ h' : TH, e = .returned (.tuple #[.agg #[.int .i64 t.state, .int .i64 t.on, .slice h'.fA k h'.fc, .slice h'.sA t.stack.length h'.sc, .int .i64 t.code], .bool (decide (0 < k))]) ∧ RT w' (fun i => D i ∨ w.heap.size ≤ i) h' { t with frames := t.frames.take k } ∧ Below w.heap.size w w' := by
  skip
  have hshare := fun (W : World) (hW : RT W (fun i => D i ∧ i < w.heap.size) h t) => share_any h t W _ hW hl
  have HS := Lib.hid hshare
  obtain ⟨fA, fc, sA, sc⟩ := h
  have HR := Lib.hid hr.cut
  have HROOM := Lib.hid hroom
  clear hr hshare hl hroom
  go_enter Try.func96, Try.ntmps96
  go_wp2_with fail
  refine (HS.out _ ((HR.out.alloc _).alloc _)).mono ?_
  rintro e w1 ⟨A', c', ts, rfl, hown, hfs, heach, hb⟩
  obtain ⟨W2, hW2⟩ : ∃ W, W = (w.alloc (.cells #[.int .i64 t.state, .int .i64 t.on, .slice fA t.frames.length fc, .slice sA t.stack.length sc, .int .i64 t.code] 29)).alloc (.cells #[.int .i64 0, .int .i64 0, .slice none 0 0, .slice none 0 0, .int .i64 0] 29) := ⟨_, rfl⟩
  have hz : W2.heap.size = w.heap.size + 1 + 1 := by rw [hW2]; simp
  have hbx2 : Blk W2 w.heap.size 29 #[.int .i64 t.state, .int .i64 t.on, .slice fA t.frames.length fc, .slice sA t.stack.length sc, .int .i64 t.code] := by rw [hW2]; exact (Blk.new w _ _).alloc _
  have hrb2 : Blk W2 (w.heap.size + 1) 29 #[.int .i64 0, .int .i64 0, .slice none 0 0, .slice none 0 0, .int .i64 0] := by rw [hW2]; simpa using Blk.new (w.alloc (.cells #[.int .i64 t.state, .int .i64 t.on, .slice fA t.frames.length fc, .slice sA t.stack.length sc, .int .i64 t.code] 29)) 29 #[.int .i64 0, .int .i64 0, .slice none 0 0, .slice none 0 0, .int .i64 0]
  have hbel2 : Below w.heap.size w W2 := by rw [hW2]; exact ((Below.refl w.heap.size w).alloc (Nat.le_refl _) _).alloc (by simp) _
  rw [← hW2] at hown hb heach
  have hri2 : RT W2 (fun i => D i ∧ i < w.heap.size) ⟨fA, fc, sA, sc⟩ t := by rw [hW2]; exact (HR.out.alloc _).alloc _
  clear hW2
  rw [hz] at hown hb
  have hsz := hb.size
  rw [hz] at hsz
  have hbx1 := hbx2.below hb (by omega)
  have hrb1 := hrb2.below hb (by omega)
  have hbel1 : Below w.heap.size w w1 := hbel2.trans (hb.mono (by omega))
  have hst1 : RID w1 (fun i => D i ∧ i < w.heap.size) sA t.stack.length sc t.stack := (hri2.stack).keep fun p hd _ => hb.cell (by omega)
  have hea1 : ∀ x ∈ ts, x.c = x.f.locals.length ∧ RID w1 (fun i => D i ∧ i < w.heap.size) x.A x.f.locals.length x.f.locals.length x.f.locals := fun x hx => ⟨(heach x hx).1, (heach x hx).2.keep fun p hd _ => hb.cell (by omega)⟩
  have x0 := (hbx1.cell 0).trans rfl
  have x1 := (hbx1.cell 1).trans rfl
  have x2 := (hbx1.cell 2).trans rfl
  have x3 := (hbx1.cell 3).trans rfl
  have x4 := (hbx1.cell 4).trans rfl
  have y0 := hbx1.frozen 0
  have y1 := hbx1.frozen 1
  have y2 := hbx1.frozen 2
  have y3 := hbx1.frozen 3
  have y4 := hbx1.frozen 4
  have H1 := Lib.hid hbx1; have H2 := Lib.hid hrb1; have H3 := Lib.hid hbel1; have H4 := Lib.hid hst1; have H5 := Lib.hid hea1; have H6 := Lib.hid hown; have H7 := Lib.hid hfs
  have hlt : w.heap.size + 1 < w1.heap.size := by omega
  have hlt0 : w.heap.size < w1.heap.size := by omega
  have r0 := (H2.out.cell 0).trans rfl
  have u0 := H2.out.frozen 0
  have r1 := (H2.out.cell 1).trans rfl
  have u1 := H2.out.frozen 1
  have r2 := (H2.out.cell 2).trans rfl
  have u2 := H2.out.frozen 2
  have r3 := (H2.out.cell 3).trans rfl
  have u3 := H2.out.frozen 3
  have r4 := (H2.out.cell 4).trans rfl
  have u4 := H2.out.frozen 4
  clear hbx2 hrb2 hbel2 hri2 hown hb heach hbx1 hrb1 hbel1 hst1 hea1 hfs hsz hz
  have hsd := shd_of (w := w) H1.out H2.out (by omega) ⟨Nat.le_refl _, by omega⟩ ⟨by omega, by omega⟩ H6.out H7.out H5.out H4.out H3.out (fun i hi => hi.2)
  have G := Lib.hid hsd
  clear hsd H3 H4 H5 H6 H7
  obtain ⟨hlen, hk6⟩ := HROOM.out
  have hcap : t.frames.length ≤ c' := by obtain ⟨_, _, e, h, _⟩ := own_slice G.out.row; injection e with _ _ e; omega
  have hkc : k ≤ c' := by omega
  have hmax : max (k : Int) 0 = (k : Int) := by omega
  have HLEN := Lib.hid hlen
  simp only [hlen] at x2 ⊢
  clear hlen hcap
  go_wp2_with fail
  obtain ⟨W3, hW3⟩ : ∃ W, W = (((((w1.setCell ⟨w.heap.size, 0, none⟩ (.int .i64 t.state)).setCell ⟨w.heap.size, 1, none⟩ (.int .i64 t.on)).setCell ⟨w.heap.size, 2, none⟩ (.slice A' (k + 1) c')).setCell ⟨w.heap.size, 3, none⟩ (.slice sA t.stack.length t.stack.length)).setCell ⟨w.heap.size, 4, none⟩ (.int .i64 t.code)) := ⟨_, rfl⟩
  have G3 : Hid (Shd w W3 w.heap.size (w.heap.size + 1) (w.heap.size + 1 + 1) (fun i => D i ∧ i < w.heap.size) t A' c' sA ts) := by
    show Shd _ _ _ _ _ _ _ _ _ _ _
    rw [hW3, ← HLEN.out]; exact G.out
  rw [← hW3]
  clear hW3 G H1 H2 x0 y0 r0 u0 x1 y1 r1 u1 x2 y2 r2 u2 x3 y3 r3 u3 x4 y4 r4 u4 hlt hlt0
  have hb := G3.out.bx
  rw [HLEN.out] at hb
  have x0 := (hb.cell 0).trans rfl
  have y0 := hb.frozen 0
  have r0 := (G3.out.rb.cell 0).trans rfl
  have u0 := G3.out.rb.frozen 0
  have x1 := (hb.cell 1).trans rfl
  have y1 := hb.frozen 1
  have r1 := (G3.out.rb.cell 1).trans rfl
  have u1 := G3.out.rb.frozen 1
  have x2 := (hb.cell 2).trans rfl
  have y2 := hb.frozen 2
  have r2 := (G3.out.rb.cell 2).trans rfl
  have u2 := G3.out.rb.frozen 2
  have x3 := (hb.cell 3).trans rfl
  have y3 := hb.frozen 3
  have r3 := (G3.out.rb.cell 3).trans rfl
  have u3 := G3.out.rb.frozen 3
  have x4 := (hb.cell 4).trans rfl
  have y4 := hb.frozen 4
  have r4 := (G3.out.rb.cell 4).trans rfl
  have u4 := G3.out.rb.frozen 4
  have hltA : w.heap.size + 1 < W3.heap.size := G3.out.rb.lt
  have hltB : w.heap.size < W3.heap.size := by omega
  clear hb
  refine (cut_frames A' (k + 1) c' k _ hkc).mono ?_
  rintro e w5 ⟨rfl, rfl⟩
  go_wp2_with fail
  have hf := ((Fr.refl (fun i => i = w.heap.size ∨ i = w.heap.size + 1) w5).setCell (p := ⟨w.heap.size, 2, none⟩) (.inl (.inl rfl)) (.slice A' k k)).set5 (g := w.heap.size + 1) (.inl (.inr rfl)) (.int .i64 t.state) (.int .i64 t.on) (.slice A' k k) (.slice sA t.stack.length t.stack.length) (.int .i64 t.code)
  refine bodyPost_ret (v := .tuple #[.agg #[.int .i64 t.state, .int .i64 t.on, .slice A' k k, .slice sA t.stack.length t.stack.length, .int .i64 t.code], .bool (decide (0 < k))]) (results_cell_slot rfl _ _ (w.heap.size + 1) 29 _ (0, 0) _ _ rfl rfl (Blk.set5 (G3.out.rb.far (by simp) _) _ _ _ _ _) Try.underlying29 rfl (by kernel_rfl)) rfl ?_
  have hrt := G3.out.rt hf (st := t.stack) (G3.out.stk hf)
  have hlk : (t.frames.take k).length = k := by rw [List.length_take, HLEN.out]; omega
  have hfr := hrt.1.wide.frames.take (k := k) (by show k ≤ t.frames.length; rw [HLEN.out]; omega)
  exact ⟨⟨A', k, sA, t.stack.length⟩, rfl, ⟨by rw [hlk]; exact hfr, hrt.1.wide.stack⟩, hrt.2⟩
end Go.Proofs.Ytkciedcfphhenaa
