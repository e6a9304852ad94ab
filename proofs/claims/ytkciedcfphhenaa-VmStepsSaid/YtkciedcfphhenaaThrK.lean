
/-
  last, hasLocal, Get of the program; a thread behind share, its last frame turned.
-/
import Derived.Test.YtkciedcfphhenaaThrH
import Derived.IntWalk
import Derived.Deep.RegionLaw
import Derived.Deep.RegionHeld
import Derived.Deep.DeepCutAuto
import Derived.Deep.CutBlock
set_option linter.unusedVariables false
set_option linter.unusedSimpArgs false
namespace Go.Proofs.Ytkciedcfphhenaa
open Go.RowKit Plain

set_option maxHeartbeats 4000000 in
set_option maxRecDepth 100000 in
theorem last_any (ad : Addr) (had : ad.spot = none) (s o x : Int) (k c : Nat) (hk : k < 1000000) (sA : Option Addr) (m sc : Nat) (w : World) :
    Calls Try.prog 87 #[.agg #[.int .i64 s, .int .i64 o, .slice (some ad) (k + 1) c, .slice sA m sc, .int .i64 x]] w fun e w' => e = .returned (.pointer (some ⟨ad.block, ad.off + k * 3, none⟩)) ∧ Below w.heap.size w w' := by
  obtain ⟨ab, ao, asp⟩ := ad
  simp only at had
  subst had
  go_enter Try.func87, Try.ntmps87
  go_wp2_with fail
  go_ret
  exact ⟨by simp [Addr.add], (Below.refl _ _).alloc (Nat.le_refl _) _⟩
set_option maxHeartbeats 4000000 in
set_option maxRecDepth 100000 in
theorem hasLocal_yes (b o i n c : Nat) (A : Option Addr) (w : World) (hc : w.cell? ⟨b, o + 2, none⟩ = some (.slice A n c)) (hi : i < n) (hn : n ≤ 1000000) :
    Calls Try.prog 93 #[.pointer (some ⟨b, o, none⟩), .int .i64 (i : Int)] w fun e w' => e = .returned (.bool true) ∧ w = w' := by
  have hi1 : (i : Int) < (n : Int) := by omega
  go_enter Try.func93, Try.ntmps93
  go_wp2_with fail
  go_ret
  exact ⟨rfl, rfl⟩
set_option maxHeartbeats 4000000 in
set_option maxRecDepth 100000 in
theorem get_yes (h : TH) (t : TV) (k : Nat) (f : FrV) (i : Nat) (z : Int) (w : World) (D : Nat → Prop) (hr : RT w D h t) (hroom : t.frames.length = k + 1 ∧ k < 1000000 ∧ t.frames[k]? = some f ∧ f.locals[i]? = some z ∧ f.locals.length ≤ 1000000) :
    Calls Try.prog 68 #[.agg #[.int .i64 t.state, .int .i64 t.on, .slice h.fA t.frames.length h.fc, .slice h.sA t.stack.length h.sc, .int .i64 t.code], .int .i64 (i : Int)] w fun e w' => e = .returned (.int .i64 z) ∧ Below w.heap.size w w' := by
  obtain ⟨hlen, hk6, hfr, hli, hl6⟩ := hroom
  have hrg := hr.frames.rg
  obtain ⟨ad, x, hA, hab, hx, c0, c1, c2, hri⟩ := hrg.at_ (k := k) (by omega)
  have hsp : ad.spot = none := by obtain ⟨ts, _, _, _, h4, _⟩ := hrg; rw [hA] at h4; exact h4.spot (by omega) (by omega)
  rw [hfr] at hx
  injection hx with hx
  subst hx
  obtain ⟨al, z', hAL, habL, hz, cL⟩ := hri.at_ (k := i) (List.getElem?_eq_some_iff.1 hli).1
  rw [hli] at hz
  injection hz with hz
  subst hz
  have hil : i < x.f.locals.length := (List.getElem?_eq_some_iff.1 hli).1
  have hii : (i : Int) < (x.f.locals.length : Int) := by omega
  obtain ⟨ab, ao, asp⟩ := ad
  simp only at hsp hab
  subst hsp
  have hadd : ((⟨ab, ao, none⟩ : Addr).add (k * 3)) = ⟨ab, ao + k * 3, none⟩ := by unfold Addr.add; by_cases h0 : k * 3 = 0 <;> simp [h0]
  rw [hadd] at c2
  rw [hAL] at c2
  obtain ⟨tA, tc, kA, kc⟩ := h
  simp only at hA c2 ⊢
  subst hA
  rw [hlen]
  have hbel : Below w.heap.size w (w.alloc (.cells #[.int .i64 t.state, .int .i64 t.on, .slice (some ⟨ab, ao, none⟩) (k + 1) tc, .slice kA t.stack.length kc, .int .i64 t.code] 29)) := (Below.refl _ _).alloc (Nat.le_refl _) _
  have HB := Lib.hid hbel; have HC2 := Lib.hid c2; have HCL := Lib.hid cL
  clear hr hlen hfr hli hrg c0 c1 c2 hri cL hbel hAL hadd
  go_enter Try.func68, Try.ntmps68
  go_wp2_with fail
  refine (last_any ⟨ab, ao, none⟩ rfl t.state t.on t.code k tc hk6 kA t.stack.length kc _).mono ?_
  rintro e w1 ⟨rfl, hb1⟩
  have hbw := HB.out.trans (hb1.mono HB.out.size)
  have d2 : w1.cell? ⟨ab, ao + k * 3 + 2, none⟩ = some (.slice (some al) x.f.locals.length x.c) := (hbw.cell (p := ⟨ab, ao + k * 3 + 2, none⟩) hab).trans HC2.out
  have dL := (hbw.cell (p := al.add i) (by simpa [block_of_add] using habL)).trans HCL.out
  have HBW := Lib.hid hbw
  clear hb1 hbw HB HC2 HCL
  go_wp2_with fail
  refine (hasLocal_yes ab (ao + k * 3) i x.f.locals.length x.c (some al) _ d2 hil hl6).mono ?_
  rintro e w2 ⟨rfl, rfl⟩
  go_wp2_with fail
  go_ret
  exact ⟨rfl, HBW.out⟩
section
variable {w W W5 : World} {g1 g2 base : Nat} {D : Nat → Prop} {t : TV} {c' : Nat} {sA : Option Addr} {ts : List TFr} {b : Nat}
theorem Shd.jump (g : Shd w W g1 g2 base D t (some ⟨b, 0, none⟩) c' sA ts) {k : Nat} {x : TFr} (hx : ts[k]? = some x) (pc : Int) (hf : Fr (fun i => i = g1 ∨ i = g2) (W.setCell ⟨b, k * 3 + 1, none⟩ (.int .i64 pc)) W5) :
    RT W5 (fun i => D i ∨ w.heap.size ≤ i) ⟨some ⟨b, 0, none⟩, c', sA, t.stack.length⟩ { t with frames := t.frames.set k { x.f with pc := pc } } ∧ Below w.heap.size w W5 := by
  have hz := g.bel.size
  have h1 := g.h1
  have h2 := g.h2
  have hD := g.hD
  have hbl := g.row.lt b rfl
  have hf0 : Fr (fun i => i = b) W (W.setCell ⟨b, k * 3 + 1, none⟩ (.int .i64 pc)) := (Fr.refl (fun i => i = b) W).setCell (p := ⟨b, k * 3 + 1, none⟩) (.inl rfl) _
  have hro := (g.row.stored (k * 3 + 1) (.int .i64 pc)).1
  rw [FrS_setPc ts k x hx] at hro
  have hro5 := hf.own hro (fun i hi e => by have := (hro.lt i hi).1; rcases e with e | e <;> omega)
  have hkp : ∀ p : Addr, D p.block → p.block < W.heap.size → W5.cell? p = W.cell? p := fun p hd hp => by
    have := hD _ hd
    exact (hf.cell (by simpa using hp) (fun e => by rcases e with e | e <;> omega)).trans (hf0.cell hp (fun e => by omega))
  refine ⟨⟨?_, (g.stack.keep hkp).mono (fun i hi _ => .inl hi)⟩, (g.bel.trans (hf0.below hz (fun i e => by omega))).trans (hf.below (Nat.le_trans hz hf0.size) (fun i e => by rcases e with e | e <;> omega))⟩
  show RGD _ _ (some ⟨b, 0, none⟩) (t.frames.set k { x.f with pc := pc }).length c' (t.frames.set k { x.f with pc := pc })
  rw [List.length_set]
  refine rgd_of_own hro5 (by rw [List.map_set, g.fs]) (fun i hi => .inr (by omega)) (fun y hy => ?_)
  rcases List.mem_or_eq_of_mem_set hy with hy | hy
  · obtain ⟨e, hri⟩ := g.each y hy
    rw [e]
    exact (hri.keep hkp).mono (fun i hi _ => .inl hi)
  · subst hy
    obtain ⟨e, hri⟩ := g.each x (List.mem_of_getElem? hx)
    show RID _ _ x.A x.f.locals.length x.c x.f.locals
    rw [e]
    exact (hri.keep hkp).mono (fun i hi _ => .inl hi)
theorem Shd.setl (g : Shd w W g1 g2 base D t (some ⟨b, 0, none⟩) c' sA ts) {k i bL cL : Nat} {x : TFr} (hx : ts[k]? = some x) (hloc : W.ownsRow base 3 1 (.slice (some ⟨bL, 0, none⟩) x.f.locals.length cL) x.f.locals.length (IS x.f.locals)) (v : Int)
    (hf : Fr (fun i => i = g1 ∨ i = g2) ((W.setCell ⟨b, k * 3 + 2, none⟩ (.slice (some ⟨bL, 0, none⟩) x.f.locals.length cL)).setCell ⟨bL, i, none⟩ (.int .i64 v)) W5) :
    RT W5 (fun i => D i ∨ w.heap.size ≤ i) ⟨some ⟨b, 0, none⟩, c', sA, t.stack.length⟩ { t with frames := t.frames.set k { x.f with locals := x.f.locals.set i v } } ∧ Below w.heap.size w W5 := by
  have hz := g.bel.size
  have h1 := g.h1
  have h2 := g.h2
  have hD := g.hD
  have hbl := g.row.lt b rfl
  have hbL := hloc.lt bL rfl
  have hne : b ≠ bL := fun e => own_ne g.row hloc (by decide) b rfl (by rw [e]; rfl)
  have hf0 : Fr (fun i => i = b) W (W.setCell ⟨b, k * 3 + 2, none⟩ (.slice (some ⟨bL, 0, none⟩) x.f.locals.length cL)) := (Fr.refl (fun i => i = b) W).setCell (p := ⟨b, k * 3 + 2, none⟩) (.inl rfl) _
  have hro := (g.row.stored (k * 3 + 2) (.slice (some ⟨bL, 0, none⟩) x.f.locals.length cL)).1
  rw [FrS_setL ts k x hx x.f.locals] at hro
  have hlo := hf0.own hloc (fun j hj e => by have hj' : bL = j := (by injection hj); omega)
  have hlo2 := (hlo.stored i (.int .i64 v)).1
  have hf1 : Fr (fun i => i = bL) (W.setCell ⟨b, k * 3 + 2, none⟩ (.slice (some ⟨bL, 0, none⟩) x.f.locals.length cL)) _ := (Fr.refl (fun i => i = bL) _).setCell (p := ⟨bL, i, none⟩) (.inl rfl) (.int .i64 v)
  have hro1 := hf1.own hro (fun j hj e => by have hj' : b = j := (by injection hj); omega)
  have hro5 := hf.own hro1 (fun i hi e => by have := (hro1.lt i hi).1; rcases e with e | e <;> omega)
  have hlo5 := hf.own hlo2 (fun i hi e => by have := (hlo2.lt i hi).1; rcases e with e | e <;> omega)
  have hkp : ∀ p : Addr, D p.block → p.block < W.heap.size → W5.cell? p = W.cell? p := fun p hd hp => by
    have := hD _ hd
    exact ((hf.cell (by simpa using hp) (fun e => by rcases e with e | e <;> omega)).trans (hf1.cell (by simpa using hp) (fun e => by omega))).trans (hf0.cell hp (fun e => by omega))
  refine ⟨⟨?_, (g.stack.keep hkp).mono (fun i hi _ => .inl hi)⟩, ((g.bel.trans (hf0.below hz (fun i e => by omega))).trans (hf1.below (Nat.le_trans hz hf0.size) (fun i e => by omega))).trans (hf.below (Nat.le_trans hz (Nat.le_trans hf0.size hf1.size)) (fun i e => by rcases e with e | e <;> omega))⟩
  show RGD _ _ (some ⟨b, 0, none⟩) (t.frames.set k { x.f with locals := x.f.locals.set i v }).length c' (t.frames.set k { x.f with locals := x.f.locals.set i v })
  rw [List.length_set]
  have hFS : FrS (ts.set k ⟨{ x.f with locals := x.f.locals.set i v }, some ⟨bL, 0, none⟩, cL⟩) = FrS (ts.set k ⟨{ x.f with locals := x.f.locals }, some ⟨bL, 0, none⟩, cL⟩) := by
    unfold FrS
    rw [List.map_set, List.map_set]
    simp [TFr.cells]
  refine rgd_of_own (ts := ts.set k ⟨{ x.f with locals := x.f.locals.set i v }, some ⟨bL, 0, none⟩, cL⟩) (by rw [hFS]; exact hro5) (by rw [List.map_set, g.fs]) (fun i hi => .inr (by omega)) (fun y hy => ?_)
  rcases List.mem_or_eq_of_mem_set hy with hy | hy
  · obtain ⟨e, hri⟩ := g.each y hy
    rw [e]
    exact (hri.keep hkp).mono (fun i hi _ => .inl hi)
  · subst hy
    show RID _ _ (some ⟨bL, 0, none⟩) (x.f.locals.set i v).length cL (x.f.locals.set i v)
    rw [List.length_set]
    have e1 : (IS x.f.locals).set i (.int .i64 v) = IS (x.f.locals.set i v) := by simp [IS, List.map_set]
    rw [e1] at hlo5
    exact (rid_of_own hlo5 (by simp)).mono (fun i hi _ => .inr (by omega))
end
end Go.Proofs.Ytkciedcfphhenaa
