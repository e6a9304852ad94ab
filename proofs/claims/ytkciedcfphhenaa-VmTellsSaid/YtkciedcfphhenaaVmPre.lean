
/-
  VmA, VmB, VmC, VmD, VmE, VmH in one text.
-/
import Derived.Test.YtkciedcfphhenaaKeepC
import Derived.Test.YtkciedcfphhenaaMapF
import Derived.Test.YtkciedcfphhenaaDoesA
import Derived.Deep.LoopGhost
import Derived.Deep.RegionLaw
import Derived.Deep.RegionHeld
import Derived.Deep.DeepCutAuto
import Derived.Deep.CutBlock
import Derived.Deep.RegionHeld3
set_option linter.unusedVariables false
set_option linter.unusedSimpArgs false
namespace Go.Proofs.Ytkciedcfphhenaa
section
open Go.RowKit Plain

/-- All deeds, in the row in which they are laid; b: the map's block; the boxes of those that ask stand behind it. -/
def dl (b : Nat) : List (Int × Value) :=
  [(0, .func (.func 55) #[] #[]),
   (1, .func (.func 57) #[] #[]),
   (2, .func (.func 60) #[] #[]),
   (3, .func (.func 62) #[] #[]),
   (4, .func (.func 65) #[] #[]),
   (5, .func (.func 67) #[] #[]),
   (6, .func (.func 69) #[] #[]),
   (7, .func (.func 72) #[] #[]),
   (8, .func (.func 74) #[] #[]),
   (9, .func (.func 76) #[] #[]),
   (10, .func (.func 78) #[] #[]),
   (26, .func (.func 80) #[] #[]),
   (12, .func (.func 97) #[] #[.pointer (some ⟨b + 1 + 0, 0, none⟩)]),
   (11, .func (.func 97) #[] #[.pointer (some ⟨b + 1 + 1, 0, none⟩)]),
   (15, .func (.func 97) #[] #[.pointer (some ⟨b + 1 + 2, 0, none⟩)]),
   (16, .func (.func 97) #[] #[.pointer (some ⟨b + 1 + 3, 0, none⟩)]),
   (17, .func (.func 97) #[] #[.pointer (some ⟨b + 1 + 4, 0, none⟩)]),
   (18, .func (.func 97) #[] #[.pointer (some ⟨b + 1 + 5, 0, none⟩)]),
   (19, .func (.func 97) #[] #[.pointer (some ⟨b + 1 + 6, 0, none⟩)]),
   (20, .func (.func 97) #[] #[.pointer (some ⟨b + 1 + 7, 0, none⟩)]),
   (21, .func (.func 97) #[] #[.pointer (some ⟨b + 1 + 8, 0, none⟩)]),
   (23, .func (.func 97) #[] #[.pointer (some ⟨b + 1 + 9, 0, none⟩)]),
   (24, .func (.func 97) #[] #[.pointer (some ⟨b + 1 + 10, 0, none⟩)]),
   (13, .func (.func 98) #[] #[.pointer (some ⟨b + 1 + 11, 0, none⟩)]),
   (14, .func (.func 98) #[] #[.pointer (some ⟨b + 1 + 12, 0, none⟩)]),
   (25, .func (.func 98) #[] #[.pointer (some ⟨b + 1 + 13, 0, none⟩)]),
   (22, .func (.func 98) #[] #[.pointer (some ⟨b + 1 + 14, 0, none⟩)])]
def dk : List Int := [0, 1, 2, 3, 4, 5, 6, 7, 8, 9, 10, 26, 12, 11, 15, 16, 17, 18, 19, 20, 21, 23, 24, 13, 14, 25, 22]
/-- What they ask for. -/
def kd : List Int := [2, 3, 6, 7, 8, 9, 10, 11, 12, 14, 15, 4, 5, 16, 13]
theorem dl_keys (b : Nat) : (dl b).map Prod.fst = dk := rfl
theorem dk_apart : ∀ m < 27, ∀ j < m, dk[j]? ≠ dk[m]? := by decide
theorem dl_fresh (b m : Nat) (p : Int × Value) (hp : (dl b)[m]? = some p) : ∀ q ∈ (dl b).take m, q.1 ≠ p.1 := by
  intro q hq e
  have hm : m < 27 := (List.getElem?_eq_some_iff.1 hp).1
  obtain ⟨j, hj⟩ := List.getElem?_of_mem hq
  have hjm : j < m := by have := (List.getElem?_eq_some_iff.1 hj).1; rw [List.length_take] at this; omega
  rw [List.getElem?_take, if_pos hjm] at hj
  have h1 : dk[j]? = some q.1 := by rw [← dl_keys b, List.getElem?_map, hj]; rfl
  have h2 : dk[m]? = some p.1 := by rw [← dl_keys b, List.getElem?_map, hp]; rfl
  exact dk_apart m hm j hjm (by rw [h1, h2, e])
/-- While the deeds are laid: m of them are in the map, q of those that ask have their boxes. -/
structure DI (w W : World) (m q : Nat) : Prop where
  size : W.heap.size = w.heap.size + 1 + q
  mp : IsM W w.heap.size ((dl w.heap.size).take m)
  bx : ∀ i, i < q → ∃ k, kd[i]? = some k ∧ Blk W (w.heap.size + 1 + i) 3 #[.int .i64 k]
  bel : Below w.heap.size w W
theorem DI.start (w : World) : DI w (w.alloc (.map #[] 0)) 0 0 :=
  ⟨by simp, heap_alloc_new w _, fun i hi => absurd hi (by omega), (Below.refl _ _).alloc (Nat.le_refl _) _⟩
section
variable {P : Program} {mt kt et : TypeId}
theorem DI.put {w W : World} {m q : Nat} (g : DI w W m q) (hm : P.underlying mt = some (.map kt et)) (hk : P.underlying kt = some (.int .i64)) (p : Int × Value) (hp : (dl w.heap.size)[m]? = some p) :
    ∃ W', (Instr.mapUpdate mt (.map (some w.heap.size)) (.int .i64 p.1) p.2).run P W = .ok () W' ∧ DI w W' (m + 1) q := by
  obtain ⟨W', h1, h2, h3, h4⟩ := g.mp.put hm hk p.1 p.2 (dl_fresh _ _ p hp)
  have e : (dl w.heap.size).take m ++ [(p.1, p.2)] = (dl w.heap.size).take (m + 1) := by rw [List.take_add_one, hp]; rfl
  rw [e] at h2
  exact ⟨W', h1, by rw [h4]; exact g.size, h2, fun i hi => by obtain ⟨k, hk, hb⟩ := g.bx i hi; exact ⟨k, hk, h3.blk hb (by omega)⟩, g.bel.trans (h3.below (by rw [g.size]; omega) (fun i hi => by omega))⟩
theorem wpList_deed {ops : Array Oper} {rest : List Oper} {o : Oper} {a : Act} {Q : Exit → Act → World → Prop} (w W : World) (hg : o.guard = none) (mo x v : Operand) (hop : o.op = Op.insert mt mo x v)
    (hmt : P.underlying mt = some (.map kt et)) (hk : P.underlying kt = some (.int .i64)) (m q : Nat) (g : DI w W m q) (p : Int × Value) (hp : (dl w.heap.size)[m]? = some p) (hm : a.eval mo = .map (some w.heap.size)) (hx : a.eval x = .int .i64 p.1) (hv : a.eval v = p.2)
    (hK : ∀ W', DI w W' (m + 1) q → wpList P ops Q rest (a.put o.dst undef) W') : wpList P ops Q (o :: rest) a W := by
  refine wpList_plain hg fun K' hK' => ?_
  obtain ⟨W', hrun, hd⟩ := g.put hmt hk p hp
  unfold Oper.wp
  simp [execOp, hop, hm, hx, hv, hrun, Result.andThen]
  exact hK' _ _ (hK W' hd)
end
theorem DI.box {w W : World} {m q : Nat} (g : DI w W m q) {k : Int} (hk : kd[q]? = some k) : DI w (W.alloc (.cells #[.int .i64 k] 3)) m (q + 1) := by
  have hb : Below W.heap.size W (W.alloc (.cells #[.int .i64 k] 3)) := (Below.refl _ _).alloc (Nat.le_refl _) _
  refine ⟨by simp [g.size]; omega, g.mp.fr (Fr.of_below hb) (by have := g.mp.lt; omega), fun i hi => ?_, g.bel.trans (hb.mono (by rw [g.size]; omega))⟩
  by_cases e : i < q
  · obtain ⟨k', h1, h2⟩ := g.bx i e
    exact ⟨k', h1, h2.alloc _⟩
  · obtain rfl : i = q := by omega
    refine ⟨k, hk, ?_⟩
    have := Blk.new W 3 #[.int .i64 k]
    rw [g.size] at this
    exact this
theorem ask_any {w W : World} {m q : Nat} (k : Int) (g : DI w W m q) (hk : kd[q]? = some k) : Calls Try.prog 81 #[.int .i64 k] W fun e W' => e = .returned (.func (.func 97) #[] #[.pointer (some ⟨w.heap.size + 1 + q, 0, none⟩)]) ∧ DI w W' m (q + 1) := by
  have HD := Lib.hid (g.box hk)
  have hs := g.size
  have HS := Lib.hid hs
  clear g hk hs
  go_enter Try.func81, Try.ntmps81
  go_wp2_with fail
  go_ret
  exact ⟨by rw [HS.out]; rfl, HD.out⟩
theorem askN_any {w W : World} {m q : Nat} (k : Int) (g : DI w W m q) (hk : kd[q]? = some k) : Calls Try.prog 82 #[.int .i64 k] W fun e W' => e = .returned (.func (.func 98) #[] #[.pointer (some ⟨w.heap.size + 1 + q, 0, none⟩)]) ∧ DI w W' m (q + 1) := by
  have HD := Lib.hid (g.box hk)
  have hs := g.size
  have HS := Lib.hid hs
  clear g hk hs
  go_enter Try.func82, Try.ntmps82
  go_wp2_with fail
  go_ret
  exact ⟨by rw [HS.out]; rfl, HD.out⟩
set_option maxHeartbeats 4000000 in
set_option maxRecDepth 100000 in
theorem deeds_any (w : World) : Calls Try.prog 32 #[] w fun e w' => e = .returned (.map (some w.heap.size)) ∧ DI w w' 27 15 := by
  have hmk := fun W => run_makeMap (P := Try.prog) 72 W
  have HD := Lib.hid (DI.start w)
  go_enter Try.func32, Try.ntmps32
  go_wp2_with (first
    | (refine wpList_deed w _ rfl _ _ _ rfl Try.underlying72 Try.underlying3 _ _ HD.out _ rfl rfl rfl rfl ?_
       intro W' hd'
       clear HD
       have HD := Lib.hid hd'
       clear hd')
    | ((with_reducible refine (ask_any _ HD.out rfl).mono ?_)
       rintro e W' ⟨rfl, hd'⟩
       clear HD
       have HD := Lib.hid hd'
       clear hd')
    | ((with_reducible refine (askN_any _ HD.out rfl).mono ?_)
       rintro e W' ⟨rfl, hd'⟩
       clear HD
       have HD := Lib.hid hd'
       clear hd'))
  go_ret
  exact ⟨rfl, HD.out⟩
end

section
open Go.RowKit Plain

/-- A turn in its box: the program, the thread, the A of the instruction, and what is asked for. -/
structure US (W : World) (ub B : Nat) (h : PH) (p : PV) (ht : TH) (t : TV) (a : Int) (q : QV) : Prop where
  bx : Blk W ub 75 #[.slice h.fA p.funcs.length h.fc, .int .i64 p.mutexes, .slice h.cA p.conds.length h.cc, .slice h.sA p.semas.length h.sc, .slice h.hA p.chans.length h.hc, .slice h.xA p.choices.length h.xc, .int .i64 p.threads, .int .i64 t.state, .int .i64 t.on, .slice ht.fA t.frames.length ht.fc, .slice ht.sA t.stack.length ht.sc, .int .i64 t.code, .int .i64 a, .int .i64 q.kind, .int .i64 q.a, .int .i64 q.v]
  rp : RP W B h p
  hB : B ≤ ub
  rt : RT W (fun i => B ≤ i ∧ i ≠ ub) ht t
section
variable {W W' : World} {ub B : Nat} {h : PH} {p : PV} {ht : TH} {t : TV} {a : Int} {q : QV}
theorem US.below (g : US W ub B h p ht t a q) (hb : Below W.heap.size W W') : US W' ub B h p ht t a q :=
  ⟨g.bx.below hb g.bx.lt, g.rp.below (hb.mono (by have := g.bx.lt; have := g.hB; omega)), g.hB, g.rt.below hb⟩
/-- The thread's part of the box, the number, the request. -/
theorem Blk.put (W : World) (g : Nat) (ty : TypeId) (cs : Array Value) (hb : Blk W g ty cs) (i : Nat) (u : Value) (cs' : Array Value) (e : cs.setIfInBounds i u = cs') : Blk (W.setCell ⟨g, i, none⟩ u) g ty cs' := by subst e; exact hb.set_ i u
theorem US.setT (g : US W ub B h p ht t a q) {W1 : World} (hb : Below W.heap.size W W1) {ht1 : TH} {t1 : TV} (hr : RT W1 (fun i => B ≤ i ∧ i ≠ ub) ht1 t1) :
    US (((((W1.setCell ⟨ub, 7, none⟩ (.int .i64 t1.state)).setCell ⟨ub, 8, none⟩ (.int .i64 t1.on)).setCell ⟨ub, 9, none⟩ (.slice ht1.fA t1.frames.length ht1.fc)).setCell ⟨ub, 10, none⟩ (.slice ht1.sA t1.stack.length ht1.sc)).setCell ⟨ub, 11, none⟩ (.int .i64 t1.code)) ub B h p ht1 t1 a q ∧ Fr (fun i => i = ub) W (((((W1.setCell ⟨ub, 7, none⟩ (.int .i64 t1.state)).setCell ⟨ub, 8, none⟩ (.int .i64 t1.on)).setCell ⟨ub, 9, none⟩ (.slice ht1.fA t1.frames.length ht1.fc)).setCell ⟨ub, 10, none⟩ (.slice ht1.sA t1.stack.length ht1.sc)).setCell ⟨ub, 11, none⟩ (.int .i64 t1.code)) := by
  have g1 := g.below hb
  have hf : Fr (fun i => i = ub) W1 (((((W1.setCell ⟨ub, 7, none⟩ (.int .i64 t1.state)).setCell ⟨ub, 8, none⟩ (.int .i64 t1.on)).setCell ⟨ub, 9, none⟩ (.slice ht1.fA t1.frames.length ht1.fc)).setCell ⟨ub, 10, none⟩ (.slice ht1.sA t1.stack.length ht1.sc)).setCell ⟨ub, 11, none⟩ (.int .i64 t1.code)) := (((((Fr.refl (fun i => i = ub) W1).setCell (p := ⟨ub, 7, none⟩) (.inl rfl) _).setCell (p := ⟨ub, 8, none⟩) (.inl rfl) _).setCell (p := ⟨ub, 9, none⟩) (.inl rfl) _).setCell (p := ⟨ub, 10, none⟩) (.inl rfl) _).setCell (p := ⟨ub, 11, none⟩) (.inl rfl) _
  have hl := g1.bx.lt
  refine ⟨⟨?_, g1.rp.keep fun x hx => hf.cell (by have := g.hB; omega) (fun e => by have := g.hB; omega), g.hB, hr.keep fun x hx hl => hf.cell hl hx.2⟩, ((Fr.of_below hb).mono (S := fun i => i = ub) (fun i hi hT => by omega)).trans hf (fun i hi hT => hT)⟩
  simpa using ((((g1.bx.set_ 7 _).set_ 8 _).set_ 9 _).set_ 10 _).set_ 11 _
theorem US.setQ (g : US W ub B h p ht t a q) (q' : QV) :
    US (((W.setCell ⟨ub, 13, none⟩ (.int .i64 q'.kind)).setCell ⟨ub, 14, none⟩ (.int .i64 q'.a)).setCell ⟨ub, 15, none⟩ (.int .i64 q'.v)) ub B h p ht t a q' ∧ Fr (fun i => i = ub) W (((W.setCell ⟨ub, 13, none⟩ (.int .i64 q'.kind)).setCell ⟨ub, 14, none⟩ (.int .i64 q'.a)).setCell ⟨ub, 15, none⟩ (.int .i64 q'.v)) := by
  have hf : Fr (fun i => i = ub) W (((W.setCell ⟨ub, 13, none⟩ (.int .i64 q'.kind)).setCell ⟨ub, 14, none⟩ (.int .i64 q'.a)).setCell ⟨ub, 15, none⟩ (.int .i64 q'.v)) := (((Fr.refl (fun i => i = ub) W).setCell (p := ⟨ub, 13, none⟩) (.inl rfl) _).setCell (p := ⟨ub, 14, none⟩) (.inl rfl) _).setCell (p := ⟨ub, 15, none⟩) (.inl rfl) _
  have hl := g.bx.lt
  refine ⟨⟨?_, g.rp.keep fun x hx => hf.cell (by have := g.hB; omega) (fun e => by have := g.hB; omega), g.hB, g.rt.keep fun x hx hl => hf.cell hl hx.2⟩, hf⟩
  simpa using ((g.bx.set_ 13 _).set_ 14 _).set_ 15 _
theorem US.setA (g : US W ub B h p ht t a q) (a' : Int) :
    US (W.setCell ⟨ub, 12, none⟩ (.int .i64 a')) ub B h p ht t a' q ∧ Fr (fun i => i = ub) W (W.setCell ⟨ub, 12, none⟩ (.int .i64 a')) := by
  have hf : Fr (fun i => i = ub) W (W.setCell ⟨ub, 12, none⟩ (.int .i64 a')) := (Fr.refl (fun i => i = ub) W).setCell (p := ⟨ub, 12, none⟩) (.inl rfl) _
  have hl := g.bx.lt
  refine ⟨⟨?_, g.rp.keep fun x hx => hf.cell (by have := g.hB; omega) (fun e => by have := g.hB; omega), g.hB, g.rt.keep fun x hx hl => hf.cell hl hx.2⟩, hf⟩
  simpa using g.bx.set_ 12 _
end
set_option maxHeartbeats 4000000 in
set_option maxRecDepth 100000 in
theorem uend_any (h : PH) (p : PV) (ht : TH) (t : TV) (a : Int) (q : QV) (c : Int) (W : World) (ub B : Nat) (hu : US W ub B h p ht t a q) :
    Calls Try.prog 53 #[.pointer (some ⟨ub, 0, none⟩), .int .i64 c] W fun e W' => e = .returned (.tuple #[]) ∧ (∃ ht' : TH, US W' ub B h p ht' (deadT c) a ⟨1, 0, c⟩) ∧ Fr (fun i => i = ub) W W' := by
  obtain ⟨fA, fc, cA, cc, sA, sc, hA, hc, xA, xc⟩ := h
  obtain ⟨a1, c1, s1, d1⟩ := ht
  have HU := Lib.hid hu
  have hul := hu.bx.lt
  have x0 : W.cell? ⟨ub, 0, none⟩ = some (.slice fA p.funcs.length fc) := (hu.bx.cell 0).trans rfl
  have y0 : W.frozen? ⟨ub, 0, none⟩ = false := hu.bx.frozen 0
  have x1 : W.cell? ⟨ub, 1, none⟩ = some (.int .i64 p.mutexes) := (hu.bx.cell 1).trans rfl
  have y1 : W.frozen? ⟨ub, 1, none⟩ = false := hu.bx.frozen 1
  have x2 : W.cell? ⟨ub, 2, none⟩ = some (.slice cA p.conds.length cc) := (hu.bx.cell 2).trans rfl
  have y2 : W.frozen? ⟨ub, 2, none⟩ = false := hu.bx.frozen 2
  have x3 : W.cell? ⟨ub, 3, none⟩ = some (.slice sA p.semas.length sc) := (hu.bx.cell 3).trans rfl
  have y3 : W.frozen? ⟨ub, 3, none⟩ = false := hu.bx.frozen 3
  have x4 : W.cell? ⟨ub, 4, none⟩ = some (.slice hA p.chans.length hc) := (hu.bx.cell 4).trans rfl
  have y4 : W.frozen? ⟨ub, 4, none⟩ = false := hu.bx.frozen 4
  have x5 : W.cell? ⟨ub, 5, none⟩ = some (.slice xA p.choices.length xc) := (hu.bx.cell 5).trans rfl
  have y5 : W.frozen? ⟨ub, 5, none⟩ = false := hu.bx.frozen 5
  have x6 : W.cell? ⟨ub, 6, none⟩ = some (.int .i64 p.threads) := (hu.bx.cell 6).trans rfl
  have y6 : W.frozen? ⟨ub, 6, none⟩ = false := hu.bx.frozen 6
  have x7 : W.cell? ⟨ub, 7, none⟩ = some (.int .i64 t.state) := (hu.bx.cell 7).trans rfl
  have y7 : W.frozen? ⟨ub, 7, none⟩ = false := hu.bx.frozen 7
  have x8 : W.cell? ⟨ub, 8, none⟩ = some (.int .i64 t.on) := (hu.bx.cell 8).trans rfl
  have y8 : W.frozen? ⟨ub, 8, none⟩ = false := hu.bx.frozen 8
  have x9 : W.cell? ⟨ub, 9, none⟩ = some (.slice a1 t.frames.length c1) := (hu.bx.cell 9).trans rfl
  have y9 : W.frozen? ⟨ub, 9, none⟩ = false := hu.bx.frozen 9
  have x10 : W.cell? ⟨ub, 10, none⟩ = some (.slice s1 t.stack.length d1) := (hu.bx.cell 10).trans rfl
  have y10 : W.frozen? ⟨ub, 10, none⟩ = false := hu.bx.frozen 10
  have x11 : W.cell? ⟨ub, 11, none⟩ = some (.int .i64 t.code) := (hu.bx.cell 11).trans rfl
  have y11 : W.frozen? ⟨ub, 11, none⟩ = false := hu.bx.frozen 11
  have x12 : W.cell? ⟨ub, 12, none⟩ = some (.int .i64 a) := (hu.bx.cell 12).trans rfl
  have y12 : W.frozen? ⟨ub, 12, none⟩ = false := hu.bx.frozen 12
  have x13 : W.cell? ⟨ub, 13, none⟩ = some (.int .i64 q.kind) := (hu.bx.cell 13).trans rfl
  have y13 : W.frozen? ⟨ub, 13, none⟩ = false := hu.bx.frozen 13
  have x14 : W.cell? ⟨ub, 14, none⟩ = some (.int .i64 q.a) := (hu.bx.cell 14).trans rfl
  have y14 : W.frozen? ⟨ub, 14, none⟩ = false := hu.bx.frozen 14
  have x15 : W.cell? ⟨ub, 15, none⟩ = some (.int .i64 q.v) := (hu.bx.cell 15).trans rfl
  have y15 : W.frozen? ⟨ub, 15, none⟩ = false := hu.bx.frozen 15
  clear hu
  go_enter Try.func53, Try.ntmps53
  go_wp2_with fail
  refine (end_any t.state t.on a1 s1 t.frames.length c1 t.stack.length d1 t.code c W).mono ?_
  rintro e W1 ⟨rfl, hb⟩
  have hu1 := HU.out.below hb
  have HB := Lib.hid hb
  clear hb x0 x1 x2 x3 x4 x5 x6 x7 x8 x9 x10 x11 x12 x13 x14 x15 y0 y1 y2 y3 y4 y5 y6 y7 y8 y9 y10 y11 y12 y13 y14 y15 hul
  have hul := hu1.bx.lt
  have x0 : W1.cell? ⟨ub, 0, none⟩ = some (.slice fA p.funcs.length fc) := (hu1.bx.cell 0).trans rfl
  have y0 : W1.frozen? ⟨ub, 0, none⟩ = false := hu1.bx.frozen 0
  have x1 : W1.cell? ⟨ub, 1, none⟩ = some (.int .i64 p.mutexes) := (hu1.bx.cell 1).trans rfl
  have y1 : W1.frozen? ⟨ub, 1, none⟩ = false := hu1.bx.frozen 1
  have x2 : W1.cell? ⟨ub, 2, none⟩ = some (.slice cA p.conds.length cc) := (hu1.bx.cell 2).trans rfl
  have y2 : W1.frozen? ⟨ub, 2, none⟩ = false := hu1.bx.frozen 2
  have x3 : W1.cell? ⟨ub, 3, none⟩ = some (.slice sA p.semas.length sc) := (hu1.bx.cell 3).trans rfl
  have y3 : W1.frozen? ⟨ub, 3, none⟩ = false := hu1.bx.frozen 3
  have x4 : W1.cell? ⟨ub, 4, none⟩ = some (.slice hA p.chans.length hc) := (hu1.bx.cell 4).trans rfl
  have y4 : W1.frozen? ⟨ub, 4, none⟩ = false := hu1.bx.frozen 4
  have x5 : W1.cell? ⟨ub, 5, none⟩ = some (.slice xA p.choices.length xc) := (hu1.bx.cell 5).trans rfl
  have y5 : W1.frozen? ⟨ub, 5, none⟩ = false := hu1.bx.frozen 5
  have x6 : W1.cell? ⟨ub, 6, none⟩ = some (.int .i64 p.threads) := (hu1.bx.cell 6).trans rfl
  have y6 : W1.frozen? ⟨ub, 6, none⟩ = false := hu1.bx.frozen 6
  have x7 : W1.cell? ⟨ub, 7, none⟩ = some (.int .i64 t.state) := (hu1.bx.cell 7).trans rfl
  have y7 : W1.frozen? ⟨ub, 7, none⟩ = false := hu1.bx.frozen 7
  have x8 : W1.cell? ⟨ub, 8, none⟩ = some (.int .i64 t.on) := (hu1.bx.cell 8).trans rfl
  have y8 : W1.frozen? ⟨ub, 8, none⟩ = false := hu1.bx.frozen 8
  have x9 : W1.cell? ⟨ub, 9, none⟩ = some (.slice a1 t.frames.length c1) := (hu1.bx.cell 9).trans rfl
  have y9 : W1.frozen? ⟨ub, 9, none⟩ = false := hu1.bx.frozen 9
  have x10 : W1.cell? ⟨ub, 10, none⟩ = some (.slice s1 t.stack.length d1) := (hu1.bx.cell 10).trans rfl
  have y10 : W1.frozen? ⟨ub, 10, none⟩ = false := hu1.bx.frozen 10
  have x11 : W1.cell? ⟨ub, 11, none⟩ = some (.int .i64 t.code) := (hu1.bx.cell 11).trans rfl
  have y11 : W1.frozen? ⟨ub, 11, none⟩ = false := hu1.bx.frozen 11
  have x12 : W1.cell? ⟨ub, 12, none⟩ = some (.int .i64 a) := (hu1.bx.cell 12).trans rfl
  have y12 : W1.frozen? ⟨ub, 12, none⟩ = false := hu1.bx.frozen 12
  have x13 : W1.cell? ⟨ub, 13, none⟩ = some (.int .i64 q.kind) := (hu1.bx.cell 13).trans rfl
  have y13 : W1.frozen? ⟨ub, 13, none⟩ = false := hu1.bx.frozen 13
  have x14 : W1.cell? ⟨ub, 14, none⟩ = some (.int .i64 q.a) := (hu1.bx.cell 14).trans rfl
  have y14 : W1.frozen? ⟨ub, 14, none⟩ = false := hu1.bx.frozen 14
  have x15 : W1.cell? ⟨ub, 15, none⟩ = some (.int .i64 q.v) := (hu1.bx.cell 15).trans rfl
  have y15 : W1.frozen? ⟨ub, 15, none⟩ = false := hu1.bx.frozen 15
  clear hu1
  go_wp2_with fail
  have hs := HU.out.setT HB.out (ht1 := ⟨none, 0, none, 0⟩) (t1 := deadT c) ((dead_rt c W1).mono fun i hi _ => hi.elim)
  have hq := hs.1.setQ ⟨1, 0, c⟩
  exact ⟨rfl, .tuple #[], by simp [results, Try.results53, go_sem], rfl, ⟨_, hq.1⟩, hs.2.trans hq.2 (fun i _ h => h)⟩
end

section
open Go.RowKit Plain

namespace Plain
/-- Numbers that are pushed one behind the other; without room the thread is over. -/
def pushAll : TV → List Int → TV × Bool
  | t, [] => (t, true)
  | t, v :: r => if t.stack.length < 16 then pushAll (pushT t v) r else (⟨9, 0, [], [], 2⟩, false)
end Plain
theorem lens_push {t : TV} (v : Int) (h : LensT t) (h16 : t.stack.length < 16) : LensT (pushT t v) := ⟨h.frames, by simp [pushT]; omega, h.locals⟩
set_option maxHeartbeats 4000000 in
set_option maxRecDepth 100000 in
theorem goOn_yes (h : PH) (p : PV) (ht : TH) (t : TV) (a : Int) (q : QV) (a2 : Option Addr) (c2 : Nat) (s2 : Option Addr) (d2 : Nat) (t2 : TV) (c : Int) (W : World) (ub B : Nat) (hu : US W ub B h p ht t a q) (hr : RT W (fun i => B ≤ i ∧ i ≠ ub) ⟨a2, c2, s2, d2⟩ t2) :
    Calls Try.prog 89 #[.pointer (some ⟨ub, 0, none⟩), .agg #[.int .i64 t2.state, .int .i64 t2.on, .slice a2 t2.frames.length c2, .slice s2 t2.stack.length d2, .int .i64 t2.code], .bool true, .int .i64 c] W fun e W' => e = .returned (.tuple #[]) ∧ (∃ ht' : TH, US W' ub B h p ht' t2 a q) ∧ Fr (fun i => i = ub) W W' := by
  obtain ⟨fA, fc, cA, cc, sA, sc, hA, hc, xA, xc⟩ := h
  obtain ⟨a1, c1, s1, d1⟩ := ht
  have HU := Lib.hid hu
  have hul := hu.bx.lt
  have x0 : W.cell? ⟨ub, 0, none⟩ = some (.slice fA p.funcs.length fc) := (hu.bx.cell 0).trans rfl
  have y0 : W.frozen? ⟨ub, 0, none⟩ = false := hu.bx.frozen 0
  have x1 : W.cell? ⟨ub, 1, none⟩ = some (.int .i64 p.mutexes) := (hu.bx.cell 1).trans rfl
  have y1 : W.frozen? ⟨ub, 1, none⟩ = false := hu.bx.frozen 1
  have x2 : W.cell? ⟨ub, 2, none⟩ = some (.slice cA p.conds.length cc) := (hu.bx.cell 2).trans rfl
  have y2 : W.frozen? ⟨ub, 2, none⟩ = false := hu.bx.frozen 2
  have x3 : W.cell? ⟨ub, 3, none⟩ = some (.slice sA p.semas.length sc) := (hu.bx.cell 3).trans rfl
  have y3 : W.frozen? ⟨ub, 3, none⟩ = false := hu.bx.frozen 3
  have x4 : W.cell? ⟨ub, 4, none⟩ = some (.slice hA p.chans.length hc) := (hu.bx.cell 4).trans rfl
  have y4 : W.frozen? ⟨ub, 4, none⟩ = false := hu.bx.frozen 4
  have x5 : W.cell? ⟨ub, 5, none⟩ = some (.slice xA p.choices.length xc) := (hu.bx.cell 5).trans rfl
  have y5 : W.frozen? ⟨ub, 5, none⟩ = false := hu.bx.frozen 5
  have x6 : W.cell? ⟨ub, 6, none⟩ = some (.int .i64 p.threads) := (hu.bx.cell 6).trans rfl
  have y6 : W.frozen? ⟨ub, 6, none⟩ = false := hu.bx.frozen 6
  have x7 : W.cell? ⟨ub, 7, none⟩ = some (.int .i64 t.state) := (hu.bx.cell 7).trans rfl
  have y7 : W.frozen? ⟨ub, 7, none⟩ = false := hu.bx.frozen 7
  have x8 : W.cell? ⟨ub, 8, none⟩ = some (.int .i64 t.on) := (hu.bx.cell 8).trans rfl
  have y8 : W.frozen? ⟨ub, 8, none⟩ = false := hu.bx.frozen 8
  have x9 : W.cell? ⟨ub, 9, none⟩ = some (.slice a1 t.frames.length c1) := (hu.bx.cell 9).trans rfl
  have y9 : W.frozen? ⟨ub, 9, none⟩ = false := hu.bx.frozen 9
  have x10 : W.cell? ⟨ub, 10, none⟩ = some (.slice s1 t.stack.length d1) := (hu.bx.cell 10).trans rfl
  have y10 : W.frozen? ⟨ub, 10, none⟩ = false := hu.bx.frozen 10
  have x11 : W.cell? ⟨ub, 11, none⟩ = some (.int .i64 t.code) := (hu.bx.cell 11).trans rfl
  have y11 : W.frozen? ⟨ub, 11, none⟩ = false := hu.bx.frozen 11
  have x12 : W.cell? ⟨ub, 12, none⟩ = some (.int .i64 a) := (hu.bx.cell 12).trans rfl
  have y12 : W.frozen? ⟨ub, 12, none⟩ = false := hu.bx.frozen 12
  have x13 : W.cell? ⟨ub, 13, none⟩ = some (.int .i64 q.kind) := (hu.bx.cell 13).trans rfl
  have y13 : W.frozen? ⟨ub, 13, none⟩ = false := hu.bx.frozen 13
  have x14 : W.cell? ⟨ub, 14, none⟩ = some (.int .i64 q.a) := (hu.bx.cell 14).trans rfl
  have y14 : W.frozen? ⟨ub, 14, none⟩ = false := hu.bx.frozen 14
  have x15 : W.cell? ⟨ub, 15, none⟩ = some (.int .i64 q.v) := (hu.bx.cell 15).trans rfl
  have y15 : W.frozen? ⟨ub, 15, none⟩ = false := hu.bx.frozen 15
  have HR := Lib.hid hr
  clear hu hr
  go_enter Try.func89, Try.ntmps89
  go_wp2_with fail
  go_end0
  have hs := HU.out.setT (Below.refl _ W) HR.out
  exact ⟨rfl, ⟨⟨a2, c2, s2, d2⟩, hs.1.below ((Below.refl _ _).alloc (Nat.le_refl _) _)⟩, hs.2.alloc _⟩
set_option maxHeartbeats 4000000 in
set_option maxRecDepth 100000 in
theorem goOn_no (h : PH) (p : PV) (ht : TH) (t : TV) (a : Int) (q : QV) (a2 : Option Addr) (c2 : Nat) (s2 : Option Addr) (d2 : Nat) (t2 : TV) (c : Int) (W : World) (ub B : Nat) (hu : US W ub B h p ht t a q) (hr : RT W (fun i => B ≤ i ∧ i ≠ ub) ⟨a2, c2, s2, d2⟩ t2) :
    Calls Try.prog 89 #[.pointer (some ⟨ub, 0, none⟩), .agg #[.int .i64 t2.state, .int .i64 t2.on, .slice a2 t2.frames.length c2, .slice s2 t2.stack.length d2, .int .i64 t2.code], .bool false, .int .i64 c] W fun e W' => e = .returned (.tuple #[]) ∧ (∃ ht' : TH, US W' ub B h p ht' (deadT c) a ⟨1, 0, c⟩) ∧ Fr (fun i => i = ub) W W' := by
  obtain ⟨fA, fc, cA, cc, sA, sc, hA, hc, xA, xc⟩ := h
  obtain ⟨a1, c1, s1, d1⟩ := ht
  have HU := Lib.hid hu
  have hul := hu.bx.lt
  have x0 : W.cell? ⟨ub, 0, none⟩ = some (.slice fA p.funcs.length fc) := (hu.bx.cell 0).trans rfl
  have y0 : W.frozen? ⟨ub, 0, none⟩ = false := hu.bx.frozen 0
  have x1 : W.cell? ⟨ub, 1, none⟩ = some (.int .i64 p.mutexes) := (hu.bx.cell 1).trans rfl
  have y1 : W.frozen? ⟨ub, 1, none⟩ = false := hu.bx.frozen 1
  have x2 : W.cell? ⟨ub, 2, none⟩ = some (.slice cA p.conds.length cc) := (hu.bx.cell 2).trans rfl
  have y2 : W.frozen? ⟨ub, 2, none⟩ = false := hu.bx.frozen 2
  have x3 : W.cell? ⟨ub, 3, none⟩ = some (.slice sA p.semas.length sc) := (hu.bx.cell 3).trans rfl
  have y3 : W.frozen? ⟨ub, 3, none⟩ = false := hu.bx.frozen 3
  have x4 : W.cell? ⟨ub, 4, none⟩ = some (.slice hA p.chans.length hc) := (hu.bx.cell 4).trans rfl
  have y4 : W.frozen? ⟨ub, 4, none⟩ = false := hu.bx.frozen 4
  have x5 : W.cell? ⟨ub, 5, none⟩ = some (.slice xA p.choices.length xc) := (hu.bx.cell 5).trans rfl
  have y5 : W.frozen? ⟨ub, 5, none⟩ = false := hu.bx.frozen 5
  have x6 : W.cell? ⟨ub, 6, none⟩ = some (.int .i64 p.threads) := (hu.bx.cell 6).trans rfl
  have y6 : W.frozen? ⟨ub, 6, none⟩ = false := hu.bx.frozen 6
  have x7 : W.cell? ⟨ub, 7, none⟩ = some (.int .i64 t.state) := (hu.bx.cell 7).trans rfl
  have y7 : W.frozen? ⟨ub, 7, none⟩ = false := hu.bx.frozen 7
  have x8 : W.cell? ⟨ub, 8, none⟩ = some (.int .i64 t.on) := (hu.bx.cell 8).trans rfl
  have y8 : W.frozen? ⟨ub, 8, none⟩ = false := hu.bx.frozen 8
  have x9 : W.cell? ⟨ub, 9, none⟩ = some (.slice a1 t.frames.length c1) := (hu.bx.cell 9).trans rfl
  have y9 : W.frozen? ⟨ub, 9, none⟩ = false := hu.bx.frozen 9
  have x10 : W.cell? ⟨ub, 10, none⟩ = some (.slice s1 t.stack.length d1) := (hu.bx.cell 10).trans rfl
  have y10 : W.frozen? ⟨ub, 10, none⟩ = false := hu.bx.frozen 10
  have x11 : W.cell? ⟨ub, 11, none⟩ = some (.int .i64 t.code) := (hu.bx.cell 11).trans rfl
  have y11 : W.frozen? ⟨ub, 11, none⟩ = false := hu.bx.frozen 11
  have x12 : W.cell? ⟨ub, 12, none⟩ = some (.int .i64 a) := (hu.bx.cell 12).trans rfl
  have y12 : W.frozen? ⟨ub, 12, none⟩ = false := hu.bx.frozen 12
  have x13 : W.cell? ⟨ub, 13, none⟩ = some (.int .i64 q.kind) := (hu.bx.cell 13).trans rfl
  have y13 : W.frozen? ⟨ub, 13, none⟩ = false := hu.bx.frozen 13
  have x14 : W.cell? ⟨ub, 14, none⟩ = some (.int .i64 q.a) := (hu.bx.cell 14).trans rfl
  have y14 : W.frozen? ⟨ub, 14, none⟩ = false := hu.bx.frozen 14
  have x15 : W.cell? ⟨ub, 15, none⟩ = some (.int .i64 q.v) := (hu.bx.cell 15).trans rfl
  have y15 : W.frozen? ⟨ub, 15, none⟩ = false := hu.bx.frozen 15
  have HR := Lib.hid hr
  clear hu hr
  go_enter Try.func89, Try.ntmps89
  go_wp2_with fail
  refine (uend_any ⟨fA, fc, cA, cc, sA, sc, hA, hc, xA, xc⟩ p ⟨a1, c1, s1, d1⟩ t a q c _ ub B (HU.out.below ((Below.refl _ _).alloc (Nat.le_refl _) _))).mono ?_
  rintro e W1 ⟨rfl, hq, hf⟩
  go_wp2_with fail
  refine bodyPost_ret (results_none rfl _ _ _) rfl ?_
  exact ⟨rfl, hq, ((Fr.refl _ W).alloc _).trans hf (fun i _ h => h)⟩
/-- The boxes of push: the thread so far, and the result's. -/
structure VP (w wr : World) (D : Nat → Prop) (hk : TH) (tk : TV) : Prop where
  b1 : Blk wr w.heap.size 29 #[.int .i64 tk.state, .int .i64 tk.on, .slice hk.fA tk.frames.length hk.fc, .slice hk.sA tk.stack.length hk.sc, .int .i64 tk.code]
  b2 : Blk wr (w.heap.size + 1) 29 #[.int .i64 0, .int .i64 0, .slice none 0 0, .slice none 0 0, .int .i64 0]
  rt : RT wr (fun i => (D i ∧ i < w.heap.size) ∨ w.heap.size + 1 + 1 ≤ i) hk tk
  len : LensT tk
  bel : Below w.heap.size w wr
theorem VP.step {w wr w1 : World} {D : Nat → Prop} {hk : TH} {tk : TV} (g : VP w wr D hk tk) (hb : Below wr.heap.size wr w1) {hj : TH} {t' : TV} (hr : RT w1 (fun i => ((D i ∧ i < w.heap.size) ∨ w.heap.size + 1 + 1 ≤ i) ∨ wr.heap.size ≤ i) hj t') (hl : LensT t') : VP w (((((w1.setCell ⟨w.heap.size, 0, none⟩ (.int .i64 t'.state)).setCell ⟨w.heap.size, 1, none⟩ (.int .i64 t'.on)).setCell ⟨w.heap.size, 2, none⟩ (.slice hj.fA t'.frames.length hj.fc)).setCell ⟨w.heap.size, 3, none⟩ (.slice hj.sA t'.stack.length hj.sc)).setCell ⟨w.heap.size, 4, none⟩ (.int .i64 t'.code)) D hj t' := by
  have hz := g.bel.size
  have hl1 := g.b2.lt
  have hf := (Fr.refl (fun i => i = w.heap.size) w1).set5 (g := w.heap.size) (.inl rfl) (.int .i64 t'.state) (.int .i64 t'.on) (.slice hj.fA t'.frames.length hj.fc) (.slice hj.sA t'.stack.length hj.sc) (.int .i64 t'.code)
  refine ⟨(g.b1.below hb g.b1.lt).set5 (.int .i64 t'.state) (.int .i64 t'.on) (.slice hj.fA t'.frames.length hj.fc) (.slice hj.sA t'.stack.length hj.sc) (.int .i64 t'.code), (g.b2.below hb g.b2.lt).far5 (g' := w.heap.size) (by omega) (.int .i64 t'.state) (.int .i64 t'.on) (.slice hj.fA t'.frames.length hj.fc) (.slice hj.sA t'.stack.length hj.sc) (.int .i64 t'.code), ?_, hl, (g.bel.trans (hb.mono hz)).trans (hf.below (Nat.le_trans hz hb.size) (fun i hi => by omega))⟩
  exact (hr.keep fun x hx hx2 => hf.cell hx2 (fun e => by omega)).mono fun i hi _ => by rcases hi with hi | hi; exact hi; exact .inr (by omega)
def VPR (w : World) (D : Nat → Prop) (t : TV) (l : List Int) (s : Value) (wr : World) : Prop :=
  ∃ (k : Nat) (hk : TH) (tk : TV), k ≤ l.length ∧ s = .int .i64 (k : Int) ∧ VP w wr D hk tk ∧ pushAll t l = pushAll tk (l.drop k)
set_option maxHeartbeats 4000000 in
set_option maxRecDepth 100000 in
theorem vpush_any (ht : TH) (t : TV) (l : List Int) (A : Option Addr) (n c : Nat) (w : World) (D : Nat → Prop) (hr : RT w D ht t) (hl : LensT t) (hri : RI w w.heap.size A n c l) (hn : n ≤ 1000000) :
    Calls Try.prog 48 #[.agg #[.int .i64 t.state, .int .i64 t.on, .slice ht.fA t.frames.length ht.fc, .slice ht.sA t.stack.length ht.sc, .int .i64 t.code], .slice A n c] w fun e w' => ∃ h' : TH, e = .returned (.tuple #[.agg #[.int .i64 (pushAll t l).1.state, .int .i64 (pushAll t l).1.on, .slice h'.fA (pushAll t l).1.frames.length h'.fc, .slice h'.sA (pushAll t l).1.stack.length h'.sc, .int .i64 (pushAll t l).1.code], .bool (pushAll t l).2]) ∧ RT w' (fun i => D i ∨ w.heap.size ≤ i) h' (pushAll t l).1 ∧ Below w.heap.size w w' := by
  obtain ⟨a1, c1, s1, d1⟩ := ht
  obtain rfl : l.length = n := hri.1
  have hvp : VP w ((w.alloc (.cells #[.int .i64 t.state, .int .i64 t.on, .slice a1 t.frames.length c1, .slice s1 t.stack.length d1, .int .i64 t.code] 29)).alloc (.cells #[.int .i64 0, .int .i64 0, .slice none 0 0, .slice none 0 0, .int .i64 0] 29)) D ⟨a1, c1, s1, d1⟩ t := by
    refine ⟨(Blk.new w _ _).alloc _, ?_, ((hr.cut.mono (E := fun i => (D i ∧ i < w.heap.size) ∨ w.heap.size + 1 + 1 ≤ i) fun i h _ => .inl h).alloc _).alloc _, hl, ((Below.refl _ _).alloc (Nat.le_refl _) _).alloc (by simp) _⟩
    simpa using Blk.new (w.alloc (.cells #[.int .i64 t.state, .int .i64 t.on, .slice a1 t.frames.length c1, .slice s1 t.stack.length d1, .int .i64 t.code] 29)) 29 #[.int .i64 0, .int .i64 0, .slice none 0 0, .slice none 0 0, .int .i64 0]
  have HVP := Lib.hid hvp; have HRI := Lib.hid hri
  clear hr hl hri hvp
  go_enter Try.func48, Try.ntmps48
  go_wp2_with fail
  go_loopw [11] (fun s11 wr => VPR w D t l s11 wr) (fun s11 _ => l.length - (intOf s11).toNat)
  case atStart => exact ⟨0, _, _, Nat.zero_le _, rfl, HVP.out, by simp⟩
  case round =>
    obtain ⟨k, ⟨ak, ck, sk, dk⟩, tk, hk, rfl, g, hp⟩ := hrel
    have G := Lib.hid g; have HP := Lib.hid hp
    by_cases hlt : k < l.length
    · obtain ⟨ad, z, hA, hab, hz, hc⟩ := HRI.out.at_ (k := k) hlt
      have hdr : l.drop k = z :: l.drop (k + 1) := by rw [List.drop_eq_getElem_cons hlt]; congr 1; exact Option.some.inj ((List.getElem?_eq_getElem hlt).symm.trans hz)
      have HDR := Lib.hid hdr
      subst hA
      have hck := (g.bel.cell (p := ad.add k) (by simpa [block_of_add] using hab)).trans hc
      have hlti : (k : Int) < (l.length : Int) := by omega
      have m0 : wr.cell? ⟨w.heap.size, 0, none⟩ = some (.int .i64 tk.state) := (g.b1.cell 0).trans rfl
      have k0 : wr.frozen? ⟨w.heap.size, 0, none⟩ = false := g.b1.frozen 0
      have m1 : wr.cell? ⟨w.heap.size, 1, none⟩ = some (.int .i64 tk.on) := (g.b1.cell 1).trans rfl
      have k1 : wr.frozen? ⟨w.heap.size, 1, none⟩ = false := g.b1.frozen 1
      have m2 : wr.cell? ⟨w.heap.size, 2, none⟩ = some (.slice ak tk.frames.length ck) := (g.b1.cell 2).trans rfl
      have k2 : wr.frozen? ⟨w.heap.size, 2, none⟩ = false := g.b1.frozen 2
      have m3 : wr.cell? ⟨w.heap.size, 3, none⟩ = some (.slice sk tk.stack.length dk) := (g.b1.cell 3).trans rfl
      have k3 : wr.frozen? ⟨w.heap.size, 3, none⟩ = false := g.b1.frozen 3
      have m4 : wr.cell? ⟨w.heap.size, 4, none⟩ = some (.int .i64 tk.code) := (g.b1.cell 4).trans rfl
      have k4 : wr.frozen? ⟨w.heap.size, 4, none⟩ = false := g.b1.frozen 4
      have hlt1 : w.heap.size < wr.heap.size := g.b1.lt
      have hlt2 : w.heap.size + 1 < wr.heap.size := g.b2.lt
      clear g hp hz hc hdr hab
      by_cases h16 : tk.stack.length < 16
      · go_wp2_with fail
        refine (push_yes ⟨ak, ck, sk, dk⟩ tk z wr _ G.out.rt G.out.len h16).mono ?_
        rintro e w1 ⟨⟨aj, cj, sj, dj⟩, rfl, hrt, hb⟩
        have hst := G.out.step hb hrt (lens_push z G.out.len h16)
        have hpe : pushAll t l = pushAll (pushT tk z) (l.drop (k + 1)) := by rw [HP.out, HDR.out]; simp [pushAll, h16]
        have hb1 := G.out.b1.below hb G.out.b1.lt
        have HST := Lib.hid hst; have HPE := Lib.hid hpe
        clear m0 k0 m1 k1 m2 k2 m3 k3 m4 k4 hlt1 hlt2 hrt hst hpe hb h16 HP G HDR
        have m0 : w1.cell? ⟨w.heap.size, 0, none⟩ = some (.int .i64 tk.state) := (hb1.cell 0).trans rfl
        have k0 : w1.frozen? ⟨w.heap.size, 0, none⟩ = false := hb1.frozen 0
        have m1 : w1.cell? ⟨w.heap.size, 1, none⟩ = some (.int .i64 tk.on) := (hb1.cell 1).trans rfl
        have k1 : w1.frozen? ⟨w.heap.size, 1, none⟩ = false := hb1.frozen 1
        have m2 : w1.cell? ⟨w.heap.size, 2, none⟩ = some (.slice ak tk.frames.length ck) := (hb1.cell 2).trans rfl
        have k2 : w1.frozen? ⟨w.heap.size, 2, none⟩ = false := hb1.frozen 2
        have m3 : w1.cell? ⟨w.heap.size, 3, none⟩ = some (.slice sk tk.stack.length dk) := (hb1.cell 3).trans rfl
        have k3 : w1.frozen? ⟨w.heap.size, 3, none⟩ = false := hb1.frozen 3
        have m4 : w1.cell? ⟨w.heap.size, 4, none⟩ = some (.int .i64 tk.code) := (hb1.cell 4).trans rfl
        have k4 : w1.frozen? ⟨w.heap.size, 4, none⟩ = false := hb1.frozen 4
        have hlt1 := hb1.lt
        clear hb1 hck
        go_wp2_with fail
        exact ⟨⟨k + 1, _, _, by omega, by go_num, HST.out, HPE.out⟩, by simp [intOf]; omega⟩
      · have hpe : pushAll t l = (⟨9, 0, [], [], 2⟩, false) := by rw [HP.out, HDR.out]; simp [pushAll, h16]
        have HPE := Lib.hid hpe
        clear hpe
        go_wp2_with fail
        refine (push_no ⟨ak, ck, sk, dk⟩ tk z wr _ G.out.rt G.out.len (by omega)).mono ?_
        rintro e w1 ⟨⟨aj, cj, sj, dj⟩, rfl, hrt, hb⟩
        have hst := G.out.step hb hrt G.out.len
        have hb1 := G.out.b1.below hb G.out.b1.lt
        have HST := Lib.hid hst
        clear m0 k0 m1 k1 m2 k2 m3 k3 m4 k4 hlt1 hlt2 hrt hst hb h16 HP G HDR hck
        have m0 : w1.cell? ⟨w.heap.size, 0, none⟩ = some (.int .i64 tk.state) := (hb1.cell 0).trans rfl
        have k0 : w1.frozen? ⟨w.heap.size, 0, none⟩ = false := hb1.frozen 0
        have m1 : w1.cell? ⟨w.heap.size, 1, none⟩ = some (.int .i64 tk.on) := (hb1.cell 1).trans rfl
        have k1 : w1.frozen? ⟨w.heap.size, 1, none⟩ = false := hb1.frozen 1
        have m2 : w1.cell? ⟨w.heap.size, 2, none⟩ = some (.slice ak tk.frames.length ck) := (hb1.cell 2).trans rfl
        have k2 : w1.frozen? ⟨w.heap.size, 2, none⟩ = false := hb1.frozen 2
        have m3 : w1.cell? ⟨w.heap.size, 3, none⟩ = some (.slice sk tk.stack.length dk) := (hb1.cell 3).trans rfl
        have k3 : w1.frozen? ⟨w.heap.size, 3, none⟩ = false := hb1.frozen 3
        have m4 : w1.cell? ⟨w.heap.size, 4, none⟩ = some (.int .i64 tk.code) := (hb1.cell 4).trans rfl
        have k4 : w1.frozen? ⟨w.heap.size, 4, none⟩ = false := hb1.frozen 4
        have hlt1 := hb1.lt
        clear hb1
        go_upto_region 7 with fail
        obtain ⟨W2, hW2⟩ : ∃ W, W = (((((w1.setCell ⟨w.heap.size, 0, none⟩ (.int .i64 tk.state)).setCell ⟨w.heap.size, 1, none⟩ (.int .i64 tk.on)).setCell ⟨w.heap.size, 2, none⟩ (.slice aj tk.frames.length cj)).setCell ⟨w.heap.size, 3, none⟩ (.slice sj tk.stack.length dj)).setCell ⟨w.heap.size, 4, none⟩ (.int .i64 tk.code)) := ⟨_, rfl⟩
        have H2 : Hid (VP w W2 D ⟨aj, cj, sj, dj⟩ tk) := by rw [hW2]; exact HST.out
        rw [← hW2]
        clear m0 k0 m1 k1 m2 k2 m3 k3 m4 k4 hlt1 hW2 HST
        have m0 : W2.cell? ⟨w.heap.size, 0, none⟩ = some (.int .i64 tk.state) := (H2.out.b1.cell 0).trans rfl
        have k0 : W2.frozen? ⟨w.heap.size, 0, none⟩ = false := H2.out.b1.frozen 0
        have m1 : W2.cell? ⟨w.heap.size, 1, none⟩ = some (.int .i64 tk.on) := (H2.out.b1.cell 1).trans rfl
        have k1 : W2.frozen? ⟨w.heap.size, 1, none⟩ = false := H2.out.b1.frozen 1
        have m2 : W2.cell? ⟨w.heap.size, 2, none⟩ = some (.slice aj tk.frames.length cj) := (H2.out.b1.cell 2).trans rfl
        have k2 : W2.frozen? ⟨w.heap.size, 2, none⟩ = false := H2.out.b1.frozen 2
        have m3 : W2.cell? ⟨w.heap.size, 3, none⟩ = some (.slice sj tk.stack.length dj) := (H2.out.b1.cell 3).trans rfl
        have k3 : W2.frozen? ⟨w.heap.size, 3, none⟩ = false := H2.out.b1.frozen 3
        have m4 : W2.cell? ⟨w.heap.size, 4, none⟩ = some (.int .i64 tk.code) := (H2.out.b1.cell 4).trans rfl
        have k4 : W2.frozen? ⟨w.heap.size, 4, none⟩ = false := H2.out.b1.frozen 4
        have hlt1 := H2.out.b1.lt
        have hlt2 := H2.out.b2.lt
        go_wp2_with fail
        refine (end_any tk.state tk.on aj sj tk.frames.length cj tk.stack.length dj tk.code 2 W2).mono ?_
        rintro e W3 ⟨rfl, hb⟩
        have hbr := H2.out.b2.below hb H2.out.b2.lt
        have hbel := H2.out.bel.trans (hb.mono H2.out.bel.size)
        have HBR := Lib.hid hbr; have HBL := Lib.hid hbel
        clear m0 k0 m1 k1 m2 k2 m3 k3 m4 k4 hlt1 hlt2 hb H2
        have m0 : W3.cell? ⟨w.heap.size + 1, 0, none⟩ = some (.int .i64 0) := (hbr.cell 0).trans rfl
        have k0 : W3.frozen? ⟨w.heap.size + 1, 0, none⟩ = false := hbr.frozen 0
        have m1 : W3.cell? ⟨w.heap.size + 1, 1, none⟩ = some (.int .i64 0) := (hbr.cell 1).trans rfl
        have k1 : W3.frozen? ⟨w.heap.size + 1, 1, none⟩ = false := hbr.frozen 1
        have m2 : W3.cell? ⟨w.heap.size + 1, 2, none⟩ = some (.slice none 0 0) := (hbr.cell 2).trans rfl
        have k2 : W3.frozen? ⟨w.heap.size + 1, 2, none⟩ = false := hbr.frozen 2
        have m3 : W3.cell? ⟨w.heap.size + 1, 3, none⟩ = some (.slice none 0 0) := (hbr.cell 3).trans rfl
        have k3 : W3.frozen? ⟨w.heap.size + 1, 3, none⟩ = false := hbr.frozen 3
        have m4 : W3.cell? ⟨w.heap.size + 1, 4, none⟩ = some (.int .i64 0) := (hbr.cell 4).trans rfl
        have k4 : W3.frozen? ⟨w.heap.size + 1, 4, none⟩ = false := hbr.frozen 4
        have hlt2 := hbr.lt
        clear hbr hbel
        go_wp2_with fail
        have hf := (Fr.refl (fun i => i = w.heap.size + 1) W3).set5 (g := w.heap.size + 1) (.inl rfl) (.int .i64 9) (.int .i64 0) (.slice none 0 0) (.slice none 0 0) (.int .i64 2)
        refine bodyPost_ret (v := .tuple #[.agg #[.int .i64 9, .int .i64 0, .slice none 0 0, .slice none 0 0, .int .i64 2], .bool false]) (results_cell_slot rfl _ _ (w.heap.size + 1) 29 _ (0, 0) _ _ rfl rfl (HBR.out.set5 (.int .i64 9) (.int .i64 0) (.slice none 0 0) (.slice none 0 0) (.int .i64 2)) Try.underlying29 rfl (by kernel_rfl)) rfl ?_
        refine ⟨⟨none, 0, none, 0⟩, by rw [HPE.out]; rfl, ?_, HBL.out.trans (hf.below HBL.out.size (fun i hi => by omega))⟩
        rw [HPE.out]
        exact (dead_rt 2 _).mono fun i hi _ => hi.elim
    · have hkn : k = l.length := by omega
      have hpe : pushAll t l = (tk, true) := by rw [HP.out, hkn, List.drop_length]; rfl
      have HPE := Lib.hid hpe
      have hlti : ¬ (k : Int) < (l.length : Int) := by omega
      have m0 : wr.cell? ⟨w.heap.size, 0, none⟩ = some (.int .i64 tk.state) := (g.b1.cell 0).trans rfl
      have k0 : wr.frozen? ⟨w.heap.size, 0, none⟩ = false := g.b1.frozen 0
      have m1 : wr.cell? ⟨w.heap.size, 1, none⟩ = some (.int .i64 tk.on) := (g.b1.cell 1).trans rfl
      have k1 : wr.frozen? ⟨w.heap.size, 1, none⟩ = false := g.b1.frozen 1
      have m2 : wr.cell? ⟨w.heap.size, 2, none⟩ = some (.slice ak tk.frames.length ck) := (g.b1.cell 2).trans rfl
      have k2 : wr.frozen? ⟨w.heap.size, 2, none⟩ = false := g.b1.frozen 2
      have m3 : wr.cell? ⟨w.heap.size, 3, none⟩ = some (.slice sk tk.stack.length dk) := (g.b1.cell 3).trans rfl
      have k3 : wr.frozen? ⟨w.heap.size, 3, none⟩ = false := g.b1.frozen 3
      have m4 : wr.cell? ⟨w.heap.size, 4, none⟩ = some (.int .i64 tk.code) := (g.b1.cell 4).trans rfl
      have k4 : wr.frozen? ⟨w.heap.size, 4, none⟩ = false := g.b1.frozen 4
      have o0 : wr.cell? ⟨w.heap.size + 1, 0, none⟩ = some (.int .i64 0) := (g.b2.cell 0).trans rfl
      have q0 : wr.frozen? ⟨w.heap.size + 1, 0, none⟩ = false := g.b2.frozen 0
      have o1 : wr.cell? ⟨w.heap.size + 1, 1, none⟩ = some (.int .i64 0) := (g.b2.cell 1).trans rfl
      have q1 : wr.frozen? ⟨w.heap.size + 1, 1, none⟩ = false := g.b2.frozen 1
      have o2 : wr.cell? ⟨w.heap.size + 1, 2, none⟩ = some (.slice none 0 0) := (g.b2.cell 2).trans rfl
      have q2 : wr.frozen? ⟨w.heap.size + 1, 2, none⟩ = false := g.b2.frozen 2
      have o3 : wr.cell? ⟨w.heap.size + 1, 3, none⟩ = some (.slice none 0 0) := (g.b2.cell 3).trans rfl
      have q3 : wr.frozen? ⟨w.heap.size + 1, 3, none⟩ = false := g.b2.frozen 3
      have o4 : wr.cell? ⟨w.heap.size + 1, 4, none⟩ = some (.int .i64 0) := (g.b2.cell 4).trans rfl
      have q4 : wr.frozen? ⟨w.heap.size + 1, 4, none⟩ = false := g.b2.frozen 4
      have hlt1 := g.b1.lt
      have hlt2 := g.b2.lt
      clear g hp hpe hkn HP
      go_wp2_with fail
      have hf := (Fr.refl (fun i => i = w.heap.size + 1) wr).set5 (g := w.heap.size + 1) (.inl rfl) (.int .i64 tk.state) (.int .i64 tk.on) (.slice ak tk.frames.length ck) (.slice sk tk.stack.length dk) (.int .i64 tk.code)
      refine bodyPost_ret (v := .tuple #[.agg #[.int .i64 tk.state, .int .i64 tk.on, .slice ak tk.frames.length ck, .slice sk tk.stack.length dk, .int .i64 tk.code], .bool true]) (results_cell_slot rfl _ _ (w.heap.size + 1) 29 _ (0, 0) _ _ rfl rfl (G.out.b2.set5 (.int .i64 tk.state) (.int .i64 tk.on) (.slice ak tk.frames.length ck) (.slice sk tk.stack.length dk) (.int .i64 tk.code)) Try.underlying29 rfl (by kernel_rfl)) rfl ?_
      refine ⟨⟨ak, ck, sk, dk⟩, by rw [HPE.out], ?_, G.out.bel.trans (hf.below G.out.bel.size (fun i hi => by omega))⟩
      rw [HPE.out]
      exact (G.out.rt.keep fun x hx hx2 => hf.cell hx2 (fun e => by omega)).mono fun i hi _ => by rcases hi with hi | hi; exact .inl hi.1; exact .inr (by omega)
end

section
open Go.RowKit Plain

namespace Plain
/-- A turn that goes on, or ends. -/
def goV (b : Bool) (t : TV) (q : QV) (c : Int) : TV × QV := if b then (t, q) else (⟨9, 0, [], [], c⟩, ⟨1, 0, c⟩)
end Plain
theorem goOn_any (h : PH) (p : PV) (ht : TH) (t : TV) (a : Int) (q : QV) (b : Bool) (a2 : Option Addr) (c2 : Nat) (s2 : Option Addr) (d2 : Nat) (t2 : TV) (c : Int) (W : World) (ub B : Nat) (hu : US W ub B h p ht t a q) (hr : RT W (fun i => B ≤ i ∧ i ≠ ub) ⟨a2, c2, s2, d2⟩ t2) :
    Calls Try.prog 89 #[.pointer (some ⟨ub, 0, none⟩), .agg #[.int .i64 t2.state, .int .i64 t2.on, .slice a2 t2.frames.length c2, .slice s2 t2.stack.length d2, .int .i64 t2.code], .bool b, .int .i64 c] W fun e W' => e = .returned (.tuple #[]) ∧ (∃ ht' : TH, US W' ub B h p ht' (goV b t2 q c).1 a (goV b t2 q c).2) ∧ Fr (fun i => i = ub) W W' := by
  obtain ⟨fA, fc, cA, cc, sA, sc, hA, hc, xA, xc⟩ := h
  obtain ⟨a1, c1, s1, d1⟩ := ht
  have HU := Lib.hid hu
  have hul := hu.bx.lt
  cases b
  · exact goOn_no ⟨fA, fc, cA, cc, sA, sc, hA, hc, xA, xc⟩ p ⟨a1, c1, s1, d1⟩ t a q a2 c2 s2 d2 t2 c W ub B hu hr
  · exact goOn_yes ⟨fA, fc, cA, cc, sA, sc, hA, hc, xA, xc⟩ p ⟨a1, c1, s1, d1⟩ t a q a2 c2 s2 d2 t2 c W ub B hu hr
set_option maxHeartbeats 4000000 in
set_option maxRecDepth 100000 in
theorem upush_any (h : PH) (p : PV) (ht : TH) (t : TV) (a : Int) (q : QV) (l : List Int) (A : Option Addr) (n c : Nat) (W : World) (ub B : Nat) (hu : US W ub B h p ht t a q) (hl : LensT t) (hri : RI W W.heap.size A n c l) (hn : n ≤ 1000000) :
    Calls Try.prog 56 #[.pointer (some ⟨ub, 0, none⟩), .slice A n c] W fun e W' => e = .returned (.tuple #[]) ∧ (∃ ht' : TH, US W' ub B h p ht' (goV (pushAll t l).2 (pushAll t l).1 q 2).1 a (goV (pushAll t l).2 (pushAll t l).1 q 2).2) ∧ Fr (fun i => i = ub) W W' := by
  obtain ⟨fA, fc, cA, cc, sA, sc, hA, hc, xA, xc⟩ := h
  obtain ⟨a1, c1, s1, d1⟩ := ht
  have HU := Lib.hid hu
  have hul := hu.bx.lt
  have x0 : W.cell? ⟨ub, 0, none⟩ = some (.slice fA p.funcs.length fc) := (hu.bx.cell 0).trans rfl
  have y0 : W.frozen? ⟨ub, 0, none⟩ = false := hu.bx.frozen 0
  have x1 : W.cell? ⟨ub, 1, none⟩ = some (.int .i64 p.mutexes) := (hu.bx.cell 1).trans rfl
  have y1 : W.frozen? ⟨ub, 1, none⟩ = false := hu.bx.frozen 1
  have x2 : W.cell? ⟨ub, 2, none⟩ = some (.slice cA p.conds.length cc) := (hu.bx.cell 2).trans rfl
  have y2 : W.frozen? ⟨ub, 2, none⟩ = false := hu.bx.frozen 2
  have x3 : W.cell? ⟨ub, 3, none⟩ = some (.slice sA p.semas.length sc) := (hu.bx.cell 3).trans rfl
  have y3 : W.frozen? ⟨ub, 3, none⟩ = false := hu.bx.frozen 3
  have x4 : W.cell? ⟨ub, 4, none⟩ = some (.slice hA p.chans.length hc) := (hu.bx.cell 4).trans rfl
  have y4 : W.frozen? ⟨ub, 4, none⟩ = false := hu.bx.frozen 4
  have x5 : W.cell? ⟨ub, 5, none⟩ = some (.slice xA p.choices.length xc) := (hu.bx.cell 5).trans rfl
  have y5 : W.frozen? ⟨ub, 5, none⟩ = false := hu.bx.frozen 5
  have x6 : W.cell? ⟨ub, 6, none⟩ = some (.int .i64 p.threads) := (hu.bx.cell 6).trans rfl
  have y6 : W.frozen? ⟨ub, 6, none⟩ = false := hu.bx.frozen 6
  have x7 : W.cell? ⟨ub, 7, none⟩ = some (.int .i64 t.state) := (hu.bx.cell 7).trans rfl
  have y7 : W.frozen? ⟨ub, 7, none⟩ = false := hu.bx.frozen 7
  have x8 : W.cell? ⟨ub, 8, none⟩ = some (.int .i64 t.on) := (hu.bx.cell 8).trans rfl
  have y8 : W.frozen? ⟨ub, 8, none⟩ = false := hu.bx.frozen 8
  have x9 : W.cell? ⟨ub, 9, none⟩ = some (.slice a1 t.frames.length c1) := (hu.bx.cell 9).trans rfl
  have y9 : W.frozen? ⟨ub, 9, none⟩ = false := hu.bx.frozen 9
  have x10 : W.cell? ⟨ub, 10, none⟩ = some (.slice s1 t.stack.length d1) := (hu.bx.cell 10).trans rfl
  have y10 : W.frozen? ⟨ub, 10, none⟩ = false := hu.bx.frozen 10
  have x11 : W.cell? ⟨ub, 11, none⟩ = some (.int .i64 t.code) := (hu.bx.cell 11).trans rfl
  have y11 : W.frozen? ⟨ub, 11, none⟩ = false := hu.bx.frozen 11
  have x12 : W.cell? ⟨ub, 12, none⟩ = some (.int .i64 a) := (hu.bx.cell 12).trans rfl
  have y12 : W.frozen? ⟨ub, 12, none⟩ = false := hu.bx.frozen 12
  have x13 : W.cell? ⟨ub, 13, none⟩ = some (.int .i64 q.kind) := (hu.bx.cell 13).trans rfl
  have y13 : W.frozen? ⟨ub, 13, none⟩ = false := hu.bx.frozen 13
  have x14 : W.cell? ⟨ub, 14, none⟩ = some (.int .i64 q.a) := (hu.bx.cell 14).trans rfl
  have y14 : W.frozen? ⟨ub, 14, none⟩ = false := hu.bx.frozen 14
  have x15 : W.cell? ⟨ub, 15, none⟩ = some (.int .i64 q.v) := (hu.bx.cell 15).trans rfl
  have y15 : W.frozen? ⟨ub, 15, none⟩ = false := hu.bx.frozen 15
  have HL := Lib.hid hl; have HRI := Lib.hid hri
  clear hu hl hri
  have hpc := vpush_any ⟨a1, c1, s1, d1⟩ t l A n c W _ HU.out.rt HL.out HRI.out hn
  generalize (pushAll t l).1 = t2 at *
  generalize (pushAll t l).2 = b at *
  have HPC := Lib.hid hpc
  clear hpc
  go_enter Try.func56, Try.ntmps56
  go_wp2_with fail
  refine (HPC.out).mono ?_
  rintro e w1 ⟨⟨a2, c2, s2, d2⟩, rfl, hrt, hb⟩
  have hr2 := (hrt.mono (E := fun i => B ≤ i ∧ i ≠ ub) (fun i hi _ => by rcases hi with hi | hi; exact hi; (first | omega | (have hBu := HU.out.hB; omega) | (have hBu := HU1.out.hB; omega) | (have hBu := HUS.out.hB; omega)))).alloc (.cells #[.int .i64 t2.state, .int .i64 t2.on, .slice a2 t2.frames.length c2, .slice s2 t2.stack.length d2, .int .i64 t2.code] 29)
  have hal : Below W.heap.size W (w1.alloc (.cells #[.int .i64 t2.state, .int .i64 t2.on, .slice a2 t2.frames.length c2, .slice s2 t2.stack.length d2, .int .i64 t2.code] 29)) := hb.trans ((Below.refl _ _).alloc hb.size _)
  have hu1 := HU.out.below hal
  have HR2 := Lib.hid hr2; have HU1 := Lib.hid hu1; have HAL := Lib.hid hal
  clear hrt hr2 hu1 hal x0 x1 x2 x3 x4 x5 x6 x7 x8 x9 x10 x11 x12 x13 x14 x15 y0 y1 y2 y3 y4 y5 y6 y7 y8 y9 y10 y11 y12 y13 y14 y15
  clear hb
  go_wp2_with fail
  refine (goOn_any ⟨fA, fc, cA, cc, sA, sc, hA, hc, xA, xc⟩ p ⟨a1, c1, s1, d1⟩ t a q b a2 c2 s2 d2 t2 2 _ ub B HU1.out HR2.out).mono ?_
  rintro e W2 ⟨rfl, hq, hf⟩
  go_wp2_with fail
  go_end0
  exact ⟨rfl, hq, ((Fr.of_below HAL.out).mono (S := fun i => i = ub) (fun i hi hT => by omega)).trans hf (fun i _ h => h)⟩
set_option maxHeartbeats 4000000 in
set_option maxRecDepth 100000 in
theorem uleave_any (h : PH) (p : PV) (ht : TH) (t : TV) (a : Int) (q : QV) (W : World) (ub B : Nat) (hu : US W ub B h p ht t a q) (hl : LensT t) (h1 : 1 ≤ t.frames.length) (h8 : t.frames.length ≤ 1000000) :
    Calls Try.prog 79 #[.pointer (some ⟨ub, 0, none⟩)] W fun e W' => e = .returned (.tuple #[]) ∧ (∃ ht' : TH, US W' ub B h p ht' (goV (decide (1 < t.frames.length)) (leaveT t) q 0).1 a (goV (decide (1 < t.frames.length)) (leaveT t) q 0).2) ∧ Fr (fun i => i = ub) W W' := by
  obtain ⟨fA, fc, cA, cc, sA, sc, hA, hc, xA, xc⟩ := h
  obtain ⟨a1, c1, s1, d1⟩ := ht
  have HU := Lib.hid hu
  have hul := hu.bx.lt
  have x0 : W.cell? ⟨ub, 0, none⟩ = some (.slice fA p.funcs.length fc) := (hu.bx.cell 0).trans rfl
  have y0 : W.frozen? ⟨ub, 0, none⟩ = false := hu.bx.frozen 0
  have x1 : W.cell? ⟨ub, 1, none⟩ = some (.int .i64 p.mutexes) := (hu.bx.cell 1).trans rfl
  have y1 : W.frozen? ⟨ub, 1, none⟩ = false := hu.bx.frozen 1
  have x2 : W.cell? ⟨ub, 2, none⟩ = some (.slice cA p.conds.length cc) := (hu.bx.cell 2).trans rfl
  have y2 : W.frozen? ⟨ub, 2, none⟩ = false := hu.bx.frozen 2
  have x3 : W.cell? ⟨ub, 3, none⟩ = some (.slice sA p.semas.length sc) := (hu.bx.cell 3).trans rfl
  have y3 : W.frozen? ⟨ub, 3, none⟩ = false := hu.bx.frozen 3
  have x4 : W.cell? ⟨ub, 4, none⟩ = some (.slice hA p.chans.length hc) := (hu.bx.cell 4).trans rfl
  have y4 : W.frozen? ⟨ub, 4, none⟩ = false := hu.bx.frozen 4
  have x5 : W.cell? ⟨ub, 5, none⟩ = some (.slice xA p.choices.length xc) := (hu.bx.cell 5).trans rfl
  have y5 : W.frozen? ⟨ub, 5, none⟩ = false := hu.bx.frozen 5
  have x6 : W.cell? ⟨ub, 6, none⟩ = some (.int .i64 p.threads) := (hu.bx.cell 6).trans rfl
  have y6 : W.frozen? ⟨ub, 6, none⟩ = false := hu.bx.frozen 6
  have x7 : W.cell? ⟨ub, 7, none⟩ = some (.int .i64 t.state) := (hu.bx.cell 7).trans rfl
  have y7 : W.frozen? ⟨ub, 7, none⟩ = false := hu.bx.frozen 7
  have x8 : W.cell? ⟨ub, 8, none⟩ = some (.int .i64 t.on) := (hu.bx.cell 8).trans rfl
  have y8 : W.frozen? ⟨ub, 8, none⟩ = false := hu.bx.frozen 8
  have x9 : W.cell? ⟨ub, 9, none⟩ = some (.slice a1 t.frames.length c1) := (hu.bx.cell 9).trans rfl
  have y9 : W.frozen? ⟨ub, 9, none⟩ = false := hu.bx.frozen 9
  have x10 : W.cell? ⟨ub, 10, none⟩ = some (.slice s1 t.stack.length d1) := (hu.bx.cell 10).trans rfl
  have y10 : W.frozen? ⟨ub, 10, none⟩ = false := hu.bx.frozen 10
  have x11 : W.cell? ⟨ub, 11, none⟩ = some (.int .i64 t.code) := (hu.bx.cell 11).trans rfl
  have y11 : W.frozen? ⟨ub, 11, none⟩ = false := hu.bx.frozen 11
  have x12 : W.cell? ⟨ub, 12, none⟩ = some (.int .i64 a) := (hu.bx.cell 12).trans rfl
  have y12 : W.frozen? ⟨ub, 12, none⟩ = false := hu.bx.frozen 12
  have x13 : W.cell? ⟨ub, 13, none⟩ = some (.int .i64 q.kind) := (hu.bx.cell 13).trans rfl
  have y13 : W.frozen? ⟨ub, 13, none⟩ = false := hu.bx.frozen 13
  have x14 : W.cell? ⟨ub, 14, none⟩ = some (.int .i64 q.a) := (hu.bx.cell 14).trans rfl
  have y14 : W.frozen? ⟨ub, 14, none⟩ = false := hu.bx.frozen 14
  have x15 : W.cell? ⟨ub, 15, none⟩ = some (.int .i64 q.v) := (hu.bx.cell 15).trans rfl
  have y15 : W.frozen? ⟨ub, 15, none⟩ = false := hu.bx.frozen 15
  have hpc := leave_all ⟨a1, c1, s1, d1⟩ t W _ hu.rt hl h1 h8 _ rfl
  clear hu hl h1 h8
  generalize leaveT t = t2 at *
  generalize decide (1 < t.frames.length) = b at *
  have HPC := Lib.hid hpc
  clear hpc
  go_enter Try.func79, Try.ntmps79
  go_wp2_with fail
  refine (HPC.out).mono ?_
  rintro e w1 ⟨⟨a2, c2, s2, d2⟩, rfl, hrt, hb⟩
  have hr2 := (hrt.mono (E := fun i => B ≤ i ∧ i ≠ ub) (fun i hi _ => by rcases hi with hi | hi; exact hi; (first | omega | (have hBu := HU.out.hB; omega) | (have hBu := HU1.out.hB; omega) | (have hBu := HUS.out.hB; omega)))).alloc (.cells #[.int .i64 t2.state, .int .i64 t2.on, .slice a2 t2.frames.length c2, .slice s2 t2.stack.length d2, .int .i64 t2.code] 29)
  have hal : Below W.heap.size W (w1.alloc (.cells #[.int .i64 t2.state, .int .i64 t2.on, .slice a2 t2.frames.length c2, .slice s2 t2.stack.length d2, .int .i64 t2.code] 29)) := hb.trans ((Below.refl _ _).alloc hb.size _)
  have hu1 := HU.out.below hal
  have HR2 := Lib.hid hr2; have HU1 := Lib.hid hu1; have HAL := Lib.hid hal
  clear hrt hr2 hu1 hal x0 x1 x2 x3 x4 x5 x6 x7 x8 x9 x10 x11 x12 x13 x14 x15 y0 y1 y2 y3 y4 y5 y6 y7 y8 y9 y10 y11 y12 y13 y14 y15
  clear hb
  go_wp2_with fail
  refine (goOn_any ⟨fA, fc, cA, cc, sA, sc, hA, hc, xA, xc⟩ p ⟨a1, c1, s1, d1⟩ t a q b a2 c2 s2 d2 t2 0 _ ub B HU1.out HR2.out).mono ?_
  rintro e W2 ⟨rfl, hq, hf⟩
  go_wp2_with fail
  go_end0
  exact ⟨rfl, hq, ((Fr.of_below HAL.out).mono (S := fun i => i = ub) (fun i hi hT => by omega)).trans hf (fun i _ h => h)⟩
set_option maxHeartbeats 4000000 in
set_option maxRecDepth 100000 in
theorem upop_no (h : PH) (p : PV) (ht : TH) (t : TV) (a : Int) (q : QV) (f : FuncId) (caps : Array Value) (W : World) (ub B : Nat) (hu : US W ub B h p ht t a q) (hl : LensT t) (h16 : t.stack.length ≤ 1000000) (h0 : t.stack.length = 0) :
    Calls Try.prog 58 #[.pointer (some ⟨ub, 0, none⟩), .func (.func f) #[] caps] W fun e W' => e = .returned (.tuple #[]) ∧ (∃ ht' : TH, US W' ub B h p ht' (deadT 1) a ⟨1, 0, 1⟩) ∧ Fr (fun i => i = ub) W W' := by
  obtain ⟨fA, fc, cA, cc, sA, sc, hA, hc, xA, xc⟩ := h
  obtain ⟨a1, c1, s1, d1⟩ := ht
  have HU := Lib.hid hu
  have hul := hu.bx.lt
  have x0 : W.cell? ⟨ub, 0, none⟩ = some (.slice fA p.funcs.length fc) := (hu.bx.cell 0).trans rfl
  have y0 : W.frozen? ⟨ub, 0, none⟩ = false := hu.bx.frozen 0
  have x1 : W.cell? ⟨ub, 1, none⟩ = some (.int .i64 p.mutexes) := (hu.bx.cell 1).trans rfl
  have y1 : W.frozen? ⟨ub, 1, none⟩ = false := hu.bx.frozen 1
  have x2 : W.cell? ⟨ub, 2, none⟩ = some (.slice cA p.conds.length cc) := (hu.bx.cell 2).trans rfl
  have y2 : W.frozen? ⟨ub, 2, none⟩ = false := hu.bx.frozen 2
  have x3 : W.cell? ⟨ub, 3, none⟩ = some (.slice sA p.semas.length sc) := (hu.bx.cell 3).trans rfl
  have y3 : W.frozen? ⟨ub, 3, none⟩ = false := hu.bx.frozen 3
  have x4 : W.cell? ⟨ub, 4, none⟩ = some (.slice hA p.chans.length hc) := (hu.bx.cell 4).trans rfl
  have y4 : W.frozen? ⟨ub, 4, none⟩ = false := hu.bx.frozen 4
  have x5 : W.cell? ⟨ub, 5, none⟩ = some (.slice xA p.choices.length xc) := (hu.bx.cell 5).trans rfl
  have y5 : W.frozen? ⟨ub, 5, none⟩ = false := hu.bx.frozen 5
  have x6 : W.cell? ⟨ub, 6, none⟩ = some (.int .i64 p.threads) := (hu.bx.cell 6).trans rfl
  have y6 : W.frozen? ⟨ub, 6, none⟩ = false := hu.bx.frozen 6
  have x7 : W.cell? ⟨ub, 7, none⟩ = some (.int .i64 t.state) := (hu.bx.cell 7).trans rfl
  have y7 : W.frozen? ⟨ub, 7, none⟩ = false := hu.bx.frozen 7
  have x8 : W.cell? ⟨ub, 8, none⟩ = some (.int .i64 t.on) := (hu.bx.cell 8).trans rfl
  have y8 : W.frozen? ⟨ub, 8, none⟩ = false := hu.bx.frozen 8
  have x9 : W.cell? ⟨ub, 9, none⟩ = some (.slice a1 t.frames.length c1) := (hu.bx.cell 9).trans rfl
  have y9 : W.frozen? ⟨ub, 9, none⟩ = false := hu.bx.frozen 9
  have x10 : W.cell? ⟨ub, 10, none⟩ = some (.slice s1 t.stack.length d1) := (hu.bx.cell 10).trans rfl
  have y10 : W.frozen? ⟨ub, 10, none⟩ = false := hu.bx.frozen 10
  have x11 : W.cell? ⟨ub, 11, none⟩ = some (.int .i64 t.code) := (hu.bx.cell 11).trans rfl
  have y11 : W.frozen? ⟨ub, 11, none⟩ = false := hu.bx.frozen 11
  have x12 : W.cell? ⟨ub, 12, none⟩ = some (.int .i64 a) := (hu.bx.cell 12).trans rfl
  have y12 : W.frozen? ⟨ub, 12, none⟩ = false := hu.bx.frozen 12
  have x13 : W.cell? ⟨ub, 13, none⟩ = some (.int .i64 q.kind) := (hu.bx.cell 13).trans rfl
  have y13 : W.frozen? ⟨ub, 13, none⟩ = false := hu.bx.frozen 13
  have x14 : W.cell? ⟨ub, 14, none⟩ = some (.int .i64 q.a) := (hu.bx.cell 14).trans rfl
  have y14 : W.frozen? ⟨ub, 14, none⟩ = false := hu.bx.frozen 14
  have x15 : W.cell? ⟨ub, 15, none⟩ = some (.int .i64 q.v) := (hu.bx.cell 15).trans rfl
  have y15 : W.frozen? ⟨ub, 15, none⟩ = false := hu.bx.frozen 15
  have hpc := pop_all ⟨a1, c1, s1, d1⟩ t W _ hu.rt hl h16 _ rfl
  clear hu hl
  rw [if_neg (by omega), decide_eq_false (by omega)] at hpc
  clear h0
  generalize topT t = z at *
  obtain ⟨t2, ht2⟩ : ∃ x, x = t := ⟨_, rfl⟩
  have HPC : Hid (Calls Try.prog 90 #[.agg #[.int .i64 t.state, .int .i64 t.on, .slice a1 t.frames.length c1, .slice s1 t.stack.length d1, .int .i64 t.code]] W fun e w' => ∃ h' : TH, e = .returned (.tuple #[.agg #[.int .i64 t2.state, .int .i64 t2.on, .slice h'.fA t2.frames.length h'.fc, .slice h'.sA t2.stack.length h'.sc, .int .i64 t2.code], .int .i64 z, .bool false]) ∧ RT w' (fun i => (B ≤ i ∧ i ≠ ub) ∨ W.heap.size ≤ i) h' t2 ∧ Below W.heap.size W w') := by subst ht2; exact hpc
  clear hpc ht2
  go_enter Try.func58, Try.ntmps58
  go_wp2_with fail
  refine (HPC.out).mono ?_
  rintro e w1 ⟨⟨a2, c2, s2, d2⟩, rfl, hrt, hb⟩
  have hr2 := (hrt.mono (E := fun i => B ≤ i ∧ i ≠ ub) (fun i hi _ => by rcases hi with hi | hi; exact hi; (first | omega | (have hBu := HU.out.hB; omega) | (have hBu := HU1.out.hB; omega) | (have hBu := HUS.out.hB; omega)))).alloc (.cells #[.int .i64 t2.state, .int .i64 t2.on, .slice a2 t2.frames.length c2, .slice s2 t2.stack.length d2, .int .i64 t2.code] 29)
  have hal : Below W.heap.size W (w1.alloc (.cells #[.int .i64 t2.state, .int .i64 t2.on, .slice a2 t2.frames.length c2, .slice s2 t2.stack.length d2, .int .i64 t2.code] 29)) := hb.trans ((Below.refl _ _).alloc hb.size _)
  have hu1 := HU.out.below hal
  have HR2 := Lib.hid hr2; have HU1 := Lib.hid hu1; have HAL := Lib.hid hal
  clear hrt hr2 hu1 hal x0 x1 x2 x3 x4 x5 x6 x7 x8 x9 x10 x11 x12 x13 x14 x15 y0 y1 y2 y3 y4 y5 y6 y7 y8 y9 y10 y11 y12 y13 y14 y15
  clear hb
  go_wp2_with fail
  refine (goOn_any ⟨fA, fc, cA, cc, sA, sc, hA, hc, xA, xc⟩ p ⟨a1, c1, s1, d1⟩ t a q false a2 c2 s2 d2 t2 1 _ ub B HU1.out HR2.out).mono ?_
  rintro e W2 ⟨rfl, hq, hf⟩
  go_wp2_with fail
  go_end0
  exact ⟨rfl, hq, ((Fr.of_below HAL.out).mono (S := fun i => i = ub) (fun i hi hT => by omega)).trans hf (fun i _ h => h)⟩
set_option maxHeartbeats 4000000 in
set_option maxRecDepth 100000 in
theorem upop_yes (h : PH) (p : PV) (ht : TH) (t : TV) (a : Int) (q : QV) (f : FuncId) (caps : Array Value) (hent : ∀ (args : Array Value) (W : World), (callFunc f args).run Try.prog W = .ok (.enter f args) W) (t' : TV) (q' : QV) (W : World) (ub B : Nat) (hu : US W ub B h p ht t a q) (hl : LensT t) (h16 : t.stack.length ≤ 1000000) (h0 : 0 < t.stack.length)
    (hcl : ∀ (W1 : World) (ht1 : TH), US W1 ub B h p ht1 (popT t) a q → Fr (fun i => i = ub) W W1 → Calls Try.prog f (#[.int .i64 (topT t)] ++ caps) W1 fun e W' => e = .returned (.tuple #[]) ∧ (∃ ht' : TH, US W' ub B h p ht' t' a q') ∧ Fr (fun i => i = ub) W1 W') :
    Calls Try.prog 58 #[.pointer (some ⟨ub, 0, none⟩), .func (.func f) #[] caps] W fun e W' => e = .returned (.tuple #[]) ∧ (∃ ht' : TH, US W' ub B h p ht' t' a q') ∧ Fr (fun i => i = ub) W W' := by
  obtain ⟨fA, fc, cA, cc, sA, sc, hA, hc, xA, xc⟩ := h
  obtain ⟨a1, c1, s1, d1⟩ := ht
  have HU := Lib.hid hu
  have hul := hu.bx.lt
  have x0 : W.cell? ⟨ub, 0, none⟩ = some (.slice fA p.funcs.length fc) := (hu.bx.cell 0).trans rfl
  have y0 : W.frozen? ⟨ub, 0, none⟩ = false := hu.bx.frozen 0
  have x1 : W.cell? ⟨ub, 1, none⟩ = some (.int .i64 p.mutexes) := (hu.bx.cell 1).trans rfl
  have y1 : W.frozen? ⟨ub, 1, none⟩ = false := hu.bx.frozen 1
  have x2 : W.cell? ⟨ub, 2, none⟩ = some (.slice cA p.conds.length cc) := (hu.bx.cell 2).trans rfl
  have y2 : W.frozen? ⟨ub, 2, none⟩ = false := hu.bx.frozen 2
  have x3 : W.cell? ⟨ub, 3, none⟩ = some (.slice sA p.semas.length sc) := (hu.bx.cell 3).trans rfl
  have y3 : W.frozen? ⟨ub, 3, none⟩ = false := hu.bx.frozen 3
  have x4 : W.cell? ⟨ub, 4, none⟩ = some (.slice hA p.chans.length hc) := (hu.bx.cell 4).trans rfl
  have y4 : W.frozen? ⟨ub, 4, none⟩ = false := hu.bx.frozen 4
  have x5 : W.cell? ⟨ub, 5, none⟩ = some (.slice xA p.choices.length xc) := (hu.bx.cell 5).trans rfl
  have y5 : W.frozen? ⟨ub, 5, none⟩ = false := hu.bx.frozen 5
  have x6 : W.cell? ⟨ub, 6, none⟩ = some (.int .i64 p.threads) := (hu.bx.cell 6).trans rfl
  have y6 : W.frozen? ⟨ub, 6, none⟩ = false := hu.bx.frozen 6
  have x7 : W.cell? ⟨ub, 7, none⟩ = some (.int .i64 t.state) := (hu.bx.cell 7).trans rfl
  have y7 : W.frozen? ⟨ub, 7, none⟩ = false := hu.bx.frozen 7
  have x8 : W.cell? ⟨ub, 8, none⟩ = some (.int .i64 t.on) := (hu.bx.cell 8).trans rfl
  have y8 : W.frozen? ⟨ub, 8, none⟩ = false := hu.bx.frozen 8
  have x9 : W.cell? ⟨ub, 9, none⟩ = some (.slice a1 t.frames.length c1) := (hu.bx.cell 9).trans rfl
  have y9 : W.frozen? ⟨ub, 9, none⟩ = false := hu.bx.frozen 9
  have x10 : W.cell? ⟨ub, 10, none⟩ = some (.slice s1 t.stack.length d1) := (hu.bx.cell 10).trans rfl
  have y10 : W.frozen? ⟨ub, 10, none⟩ = false := hu.bx.frozen 10
  have x11 : W.cell? ⟨ub, 11, none⟩ = some (.int .i64 t.code) := (hu.bx.cell 11).trans rfl
  have y11 : W.frozen? ⟨ub, 11, none⟩ = false := hu.bx.frozen 11
  have x12 : W.cell? ⟨ub, 12, none⟩ = some (.int .i64 a) := (hu.bx.cell 12).trans rfl
  have y12 : W.frozen? ⟨ub, 12, none⟩ = false := hu.bx.frozen 12
  have x13 : W.cell? ⟨ub, 13, none⟩ = some (.int .i64 q.kind) := (hu.bx.cell 13).trans rfl
  have y13 : W.frozen? ⟨ub, 13, none⟩ = false := hu.bx.frozen 13
  have x14 : W.cell? ⟨ub, 14, none⟩ = some (.int .i64 q.a) := (hu.bx.cell 14).trans rfl
  have y14 : W.frozen? ⟨ub, 14, none⟩ = false := hu.bx.frozen 14
  have x15 : W.cell? ⟨ub, 15, none⟩ = some (.int .i64 q.v) := (hu.bx.cell 15).trans rfl
  have y15 : W.frozen? ⟨ub, 15, none⟩ = false := hu.bx.frozen 15
  have hpc := pop_all ⟨a1, c1, s1, d1⟩ t W _ hu.rt hl h16 _ rfl
  clear hu hl
  rw [if_pos (by omega), decide_eq_true (by omega)] at hpc
  clear h0
  generalize topT t = z at *
  generalize popT t = t2 at *
  have HPC := Lib.hid hpc; have HCL := Lib.hid hcl
  clear hpc hcl
  go_enter Try.func58, Try.ntmps58
  go_wp2_with fail
  refine (HPC.out).mono ?_
  rintro e w1 ⟨⟨a2, c2, s2, d2⟩, rfl, hrt, hb⟩
  have hr2 := (hrt.mono (E := fun i => B ≤ i ∧ i ≠ ub) (fun i hi _ => by rcases hi with hi | hi; exact hi; (first | omega | (have hBu := HU.out.hB; omega) | (have hBu := HU1.out.hB; omega) | (have hBu := HUS.out.hB; omega)))).alloc (.cells #[.int .i64 t2.state, .int .i64 t2.on, .slice a2 t2.frames.length c2, .slice s2 t2.stack.length d2, .int .i64 t2.code] 29)
  have hal : Below W.heap.size W (w1.alloc (.cells #[.int .i64 t2.state, .int .i64 t2.on, .slice a2 t2.frames.length c2, .slice s2 t2.stack.length d2, .int .i64 t2.code] 29)) := hb.trans ((Below.refl _ _).alloc hb.size _)
  have hu1 := HU.out.below hal
  have HR2 := Lib.hid hr2; have HU1 := Lib.hid hu1; have HAL := Lib.hid hal
  clear hrt hr2 hu1 hal x0 x1 x2 x3 x4 x5 x6 x7 x8 x9 x10 x11 x12 x13 x14 x15 y0 y1 y2 y3 y4 y5 y6 y7 y8 y9 y10 y11 y12 y13 y14 y15
  clear hb
  go_wp2_with fail
  refine (goOn_any ⟨fA, fc, cA, cc, sA, sc, hA, hc, xA, xc⟩ p ⟨a1, c1, s1, d1⟩ t a q true a2 c2 s2 d2 t2 1 _ ub B HU1.out HR2.out).mono ?_
  rintro e W2 ⟨rfl, hq, hf⟩
  obtain ⟨ht3, hq⟩ := hq
  have hq3 : US W2 ub B ⟨fA, fc, cA, cc, sA, sc, hA, hc, xA, xc⟩ p ht3 t2 a q := hq
  have hf3 := ((Fr.of_below HAL.out).mono (S := fun i => i = ub) (fun i hi hT => by omega)).trans hf (fun i _ h => h)
  have HQ := Lib.hid hq3; have HF := Lib.hid hf3
  clear hq hq3 hf hf3
  go_wp2_with fail
  refine (HCL.out W2 ht3 HQ.out HF.out).mono ?_
  rintro e W3 ⟨rfl, hq, hf⟩
  go_wp2_with fail
  go_end0
  exact ⟨rfl, hq, HF.out.trans hf (fun i _ h => h)⟩
end

section
open Go.RowKit Plain

theorem ri_new (w : World) (l : List Int) : RI (w.alloc (.cells (IS l).toArray 3)) (w.alloc (.cells (IS l).toArray 3)).heap.size (some ⟨w.heap.size, 0, none⟩) l.length l.length l := by
  refine ⟨rfl, Nat.le_refl _, by rw [IS_length]; simp, fun _ => ⟨_, rfl, by simp, fun j u hj => ?_⟩⟩
  have hadd : (⟨w.heap.size, 0, none⟩ : Addr).add j = ⟨w.heap.size, j, none⟩ := by unfold Addr.add; split <;> simp_all
  rw [hadd, (Blk.new w 3 (IS l).toArray).cell j]
  simpa using hj
theorem pushV_eq (t : TV) (v : Int) : pushV t v = goV (pushAll t [v]).2 (pushAll t [v]).1 q0 2 := by
  by_cases h : t.stack.length < 16
  · simp [pushV, pushAll, goV, h]
  · simp [pushV, pushAll, goV, h, endV]
theorem lens_pop {t : TV} (h : LensT t) : LensT (popT t) := ⟨h.frames, by have := h.stack; simp [popT]; omega, h.locals⟩
set_option maxHeartbeats 4000000 in
set_option maxRecDepth 100000 in
theorem deed0 (h : PH) (p : PV) (ht : TH) (t : TV) (a : Int) (W : World) (ub B : Nat) (hu : US W ub B h p ht t a q0) (hl : LensT t) (hm : 1 ≤ t.frames.length ∧ t.frames.length ≤ 1000000 ∧ t.stack.length ≤ 1000000) :
    Calls Try.prog 55 #[.pointer (some ⟨ub, 0, none⟩)] W fun e W' => e = .returned (.tuple #[]) ∧ (∃ ht' : TH, US W' ub B h p ht' (deedV p t ⟨0, a⟩).1 a (deedV p t ⟨0, a⟩).2) ∧ Fr (fun i => i = ub) W W' := by
  obtain ⟨fA, fc, cA, cc, sA, sc, hA, hc, xA, xc⟩ := h
  obtain ⟨a1, c1, s1, d1⟩ := ht
  have HU := Lib.hid hu
  have hul := hu.bx.lt
  have x0 : W.cell? ⟨ub, 0, none⟩ = some (.slice fA p.funcs.length fc) := (hu.bx.cell 0).trans rfl
  have y0 : W.frozen? ⟨ub, 0, none⟩ = false := hu.bx.frozen 0
  have x1 : W.cell? ⟨ub, 1, none⟩ = some (.int .i64 p.mutexes) := (hu.bx.cell 1).trans rfl
  have y1 : W.frozen? ⟨ub, 1, none⟩ = false := hu.bx.frozen 1
  have x2 : W.cell? ⟨ub, 2, none⟩ = some (.slice cA p.conds.length cc) := (hu.bx.cell 2).trans rfl
  have y2 : W.frozen? ⟨ub, 2, none⟩ = false := hu.bx.frozen 2
  have x3 : W.cell? ⟨ub, 3, none⟩ = some (.slice sA p.semas.length sc) := (hu.bx.cell 3).trans rfl
  have y3 : W.frozen? ⟨ub, 3, none⟩ = false := hu.bx.frozen 3
  have x4 : W.cell? ⟨ub, 4, none⟩ = some (.slice hA p.chans.length hc) := (hu.bx.cell 4).trans rfl
  have y4 : W.frozen? ⟨ub, 4, none⟩ = false := hu.bx.frozen 4
  have x5 : W.cell? ⟨ub, 5, none⟩ = some (.slice xA p.choices.length xc) := (hu.bx.cell 5).trans rfl
  have y5 : W.frozen? ⟨ub, 5, none⟩ = false := hu.bx.frozen 5
  have x6 : W.cell? ⟨ub, 6, none⟩ = some (.int .i64 p.threads) := (hu.bx.cell 6).trans rfl
  have y6 : W.frozen? ⟨ub, 6, none⟩ = false := hu.bx.frozen 6
  have x7 : W.cell? ⟨ub, 7, none⟩ = some (.int .i64 t.state) := (hu.bx.cell 7).trans rfl
  have y7 : W.frozen? ⟨ub, 7, none⟩ = false := hu.bx.frozen 7
  have x8 : W.cell? ⟨ub, 8, none⟩ = some (.int .i64 t.on) := (hu.bx.cell 8).trans rfl
  have y8 : W.frozen? ⟨ub, 8, none⟩ = false := hu.bx.frozen 8
  have x9 : W.cell? ⟨ub, 9, none⟩ = some (.slice a1 t.frames.length c1) := (hu.bx.cell 9).trans rfl
  have y9 : W.frozen? ⟨ub, 9, none⟩ = false := hu.bx.frozen 9
  have x10 : W.cell? ⟨ub, 10, none⟩ = some (.slice s1 t.stack.length d1) := (hu.bx.cell 10).trans rfl
  have y10 : W.frozen? ⟨ub, 10, none⟩ = false := hu.bx.frozen 10
  have x11 : W.cell? ⟨ub, 11, none⟩ = some (.int .i64 t.code) := (hu.bx.cell 11).trans rfl
  have y11 : W.frozen? ⟨ub, 11, none⟩ = false := hu.bx.frozen 11
  have x12 : W.cell? ⟨ub, 12, none⟩ = some (.int .i64 a) := (hu.bx.cell 12).trans rfl
  have y12 : W.frozen? ⟨ub, 12, none⟩ = false := hu.bx.frozen 12
  have x13 : W.cell? ⟨ub, 13, none⟩ = some (.int .i64 q0.kind) := (hu.bx.cell 13).trans rfl
  have y13 : W.frozen? ⟨ub, 13, none⟩ = false := hu.bx.frozen 13
  have x14 : W.cell? ⟨ub, 14, none⟩ = some (.int .i64 q0.a) := (hu.bx.cell 14).trans rfl
  have y14 : W.frozen? ⟨ub, 14, none⟩ = false := hu.bx.frozen 14
  have x15 : W.cell? ⟨ub, 15, none⟩ = some (.int .i64 q0.v) := (hu.bx.cell 15).trans rfl
  have y15 : W.frozen? ⟨ub, 15, none⟩ = false := hu.bx.frozen 15
  have HL := Lib.hid hl
  clear hu hl
  have hd : deedV p t ⟨0, a⟩ = goV (pushAll t [a]).2 (pushAll t [a]).1 q0 2 := pushV_eq t a
  rw [hd]
  clear hd
  go_enter Try.func55, Try.ntmps55
  go_wp2_with fail
  refine (upush_any ⟨fA, fc, cA, cc, sA, sc, hA, hc, xA, xc⟩ p ⟨a1, c1, s1, d1⟩ t a q0 [a] (some ⟨W.heap.size, 0, none⟩) 1 1 _ ub B (HU.out.below ((Below.refl _ _).alloc (Nat.le_refl _) _)) HL.out (ri_new W [a]) (by omega)).mono ?_
  rintro e W1 ⟨rfl, hq, hf⟩
  go_wp2_with fail
  go_end0
  exact ⟨rfl, hq, (((Fr.refl (fun i => i = ub) W).alloc _).trans hf (fun i _ h => h))⟩
set_option maxHeartbeats 4000000 in
set_option maxRecDepth 100000 in
theorem deed5 (h : PH) (p : PV) (ht : TH) (t : TV) (a : Int) (W : World) (ub B : Nat) (hu : US W ub B h p ht t a q0) (hl : LensT t) (hm : 1 ≤ t.frames.length ∧ t.frames.length ≤ 1000000 ∧ t.stack.length ≤ 1000000) (hi : 0 ≤ a ∧ a < (lastFr t).locals.length ∧ (lastFr t).locals.length ≤ 1000000) :
    Calls Try.prog 67 #[.pointer (some ⟨ub, 0, none⟩)] W fun e W' => e = .returned (.tuple #[]) ∧ (∃ ht' : TH, US W' ub B h p ht' (deedV p t ⟨5, a⟩).1 a (deedV p t ⟨5, a⟩).2) ∧ Fr (fun i => i = ub) W W' := by
  obtain ⟨fA, fc, cA, cc, sA, sc, hA, hc, xA, xc⟩ := h
  obtain ⟨a1, c1, s1, d1⟩ := ht
  have HU := Lib.hid hu
  have hul := hu.bx.lt
  have x0 : W.cell? ⟨ub, 0, none⟩ = some (.slice fA p.funcs.length fc) := (hu.bx.cell 0).trans rfl
  have y0 : W.frozen? ⟨ub, 0, none⟩ = false := hu.bx.frozen 0
  have x1 : W.cell? ⟨ub, 1, none⟩ = some (.int .i64 p.mutexes) := (hu.bx.cell 1).trans rfl
  have y1 : W.frozen? ⟨ub, 1, none⟩ = false := hu.bx.frozen 1
  have x2 : W.cell? ⟨ub, 2, none⟩ = some (.slice cA p.conds.length cc) := (hu.bx.cell 2).trans rfl
  have y2 : W.frozen? ⟨ub, 2, none⟩ = false := hu.bx.frozen 2
  have x3 : W.cell? ⟨ub, 3, none⟩ = some (.slice sA p.semas.length sc) := (hu.bx.cell 3).trans rfl
  have y3 : W.frozen? ⟨ub, 3, none⟩ = false := hu.bx.frozen 3
  have x4 : W.cell? ⟨ub, 4, none⟩ = some (.slice hA p.chans.length hc) := (hu.bx.cell 4).trans rfl
  have y4 : W.frozen? ⟨ub, 4, none⟩ = false := hu.bx.frozen 4
  have x5 : W.cell? ⟨ub, 5, none⟩ = some (.slice xA p.choices.length xc) := (hu.bx.cell 5).trans rfl
  have y5 : W.frozen? ⟨ub, 5, none⟩ = false := hu.bx.frozen 5
  have x6 : W.cell? ⟨ub, 6, none⟩ = some (.int .i64 p.threads) := (hu.bx.cell 6).trans rfl
  have y6 : W.frozen? ⟨ub, 6, none⟩ = false := hu.bx.frozen 6
  have x7 : W.cell? ⟨ub, 7, none⟩ = some (.int .i64 t.state) := (hu.bx.cell 7).trans rfl
  have y7 : W.frozen? ⟨ub, 7, none⟩ = false := hu.bx.frozen 7
  have x8 : W.cell? ⟨ub, 8, none⟩ = some (.int .i64 t.on) := (hu.bx.cell 8).trans rfl
  have y8 : W.frozen? ⟨ub, 8, none⟩ = false := hu.bx.frozen 8
  have x9 : W.cell? ⟨ub, 9, none⟩ = some (.slice a1 t.frames.length c1) := (hu.bx.cell 9).trans rfl
  have y9 : W.frozen? ⟨ub, 9, none⟩ = false := hu.bx.frozen 9
  have x10 : W.cell? ⟨ub, 10, none⟩ = some (.slice s1 t.stack.length d1) := (hu.bx.cell 10).trans rfl
  have y10 : W.frozen? ⟨ub, 10, none⟩ = false := hu.bx.frozen 10
  have x11 : W.cell? ⟨ub, 11, none⟩ = some (.int .i64 t.code) := (hu.bx.cell 11).trans rfl
  have y11 : W.frozen? ⟨ub, 11, none⟩ = false := hu.bx.frozen 11
  have x12 : W.cell? ⟨ub, 12, none⟩ = some (.int .i64 a) := (hu.bx.cell 12).trans rfl
  have y12 : W.frozen? ⟨ub, 12, none⟩ = false := hu.bx.frozen 12
  have x13 : W.cell? ⟨ub, 13, none⟩ = some (.int .i64 q0.kind) := (hu.bx.cell 13).trans rfl
  have y13 : W.frozen? ⟨ub, 13, none⟩ = false := hu.bx.frozen 13
  have x14 : W.cell? ⟨ub, 14, none⟩ = some (.int .i64 q0.a) := (hu.bx.cell 14).trans rfl
  have y14 : W.frozen? ⟨ub, 14, none⟩ = false := hu.bx.frozen 14
  have x15 : W.cell? ⟨ub, 15, none⟩ = some (.int .i64 q0.v) := (hu.bx.cell 15).trans rfl
  have y15 : W.frozen? ⟨ub, 15, none⟩ = false := hu.bx.frozen 15
  obtain ⟨hi0, hi1, hi8⟩ := hi
  obtain ⟨i, rfl⟩ := Int.eq_ofNat_of_zero_le hi0
  have hg := get_all ⟨a1, c1, s1, d1⟩ t i W.drew _ (RT.drew hu.rt) hm.1 hm.2.1 (by omega) hi8
  have HL := Lib.hid hl; have HG := Lib.hid hg
  clear hu hl hg
  have hd : deedV p t ⟨5, (i : Int)⟩ = goV (pushAll t [getT t i]).2 (pushAll t [getT t i]).1 q0 2 := pushV_eq t _
  rw [hd]
  clear hd
  generalize getT t i = z at *
  go_enter Try.func67, Try.ntmps67
  go_upto_region 0 with fail
  go_region_law (first
    | (go_simp; with_reducible refine HG.out.mono ?_
       rintro e W1 ⟨rfl, hb⟩
       have hbw : Below W.heap.size W W1 := ((Below.refl _ _).drew).trans hb
       have HB := Lib.hid hbw
       have hs := hbw.size
       clear hb hbw)
    | (go_simp; with_reducible refine (upush_any ⟨fA, fc, cA, cc, sA, sc, hA, hc, xA, xc⟩ p ⟨a1, c1, s1, d1⟩ t (i : Int) q0 [z] (some ⟨W1.heap.size, 0, none⟩) 1 1 _ ub B ((HU.out.below HB.out).below ((Below.refl _ _).alloc (Nat.le_refl _) _)) HL.out (ri_new W1 [z]) (by omega)).mono ?_
       rintro e W2 ⟨rfl, hq, hf⟩))
  all_goals
    go_wp2_with fail
    go_end0
    exact ⟨rfl, hq, ((((Fr.of_below HB.out).mono (S := fun i => i = ub) (fun j hj hT => by omega)).alloc _).trans hf (fun i _ h => h))⟩
set_option maxHeartbeats 4000000 in
set_option maxRecDepth 100000 in
theorem deed7 (h : PH) (p : PV) (ht : TH) (t : TV) (a : Int) (W : World) (ub B : Nat) (hu : US W ub B h p ht t a q0) (hl : LensT t) (hm : 1 ≤ t.frames.length ∧ t.frames.length ≤ 1000000 ∧ t.stack.length ≤ 1000000) :
    Calls Try.prog 72 #[.pointer (some ⟨ub, 0, none⟩)] W fun e W' => e = .returned (.tuple #[]) ∧ (∃ ht' : TH, US W' ub B h p ht' (deedV p t ⟨7, a⟩).1 a (deedV p t ⟨7, a⟩).2) ∧ Fr (fun i => i = ub) W W' := by
  obtain ⟨fA, fc, cA, cc, sA, sc, hA, hc, xA, xc⟩ := h
  obtain ⟨a1, c1, s1, d1⟩ := ht
  have HU := Lib.hid hu
  have hul := hu.bx.lt
  have x0 : W.cell? ⟨ub, 0, none⟩ = some (.slice fA p.funcs.length fc) := (hu.bx.cell 0).trans rfl
  have y0 : W.frozen? ⟨ub, 0, none⟩ = false := hu.bx.frozen 0
  have x1 : W.cell? ⟨ub, 1, none⟩ = some (.int .i64 p.mutexes) := (hu.bx.cell 1).trans rfl
  have y1 : W.frozen? ⟨ub, 1, none⟩ = false := hu.bx.frozen 1
  have x2 : W.cell? ⟨ub, 2, none⟩ = some (.slice cA p.conds.length cc) := (hu.bx.cell 2).trans rfl
  have y2 : W.frozen? ⟨ub, 2, none⟩ = false := hu.bx.frozen 2
  have x3 : W.cell? ⟨ub, 3, none⟩ = some (.slice sA p.semas.length sc) := (hu.bx.cell 3).trans rfl
  have y3 : W.frozen? ⟨ub, 3, none⟩ = false := hu.bx.frozen 3
  have x4 : W.cell? ⟨ub, 4, none⟩ = some (.slice hA p.chans.length hc) := (hu.bx.cell 4).trans rfl
  have y4 : W.frozen? ⟨ub, 4, none⟩ = false := hu.bx.frozen 4
  have x5 : W.cell? ⟨ub, 5, none⟩ = some (.slice xA p.choices.length xc) := (hu.bx.cell 5).trans rfl
  have y5 : W.frozen? ⟨ub, 5, none⟩ = false := hu.bx.frozen 5
  have x6 : W.cell? ⟨ub, 6, none⟩ = some (.int .i64 p.threads) := (hu.bx.cell 6).trans rfl
  have y6 : W.frozen? ⟨ub, 6, none⟩ = false := hu.bx.frozen 6
  have x7 : W.cell? ⟨ub, 7, none⟩ = some (.int .i64 t.state) := (hu.bx.cell 7).trans rfl
  have y7 : W.frozen? ⟨ub, 7, none⟩ = false := hu.bx.frozen 7
  have x8 : W.cell? ⟨ub, 8, none⟩ = some (.int .i64 t.on) := (hu.bx.cell 8).trans rfl
  have y8 : W.frozen? ⟨ub, 8, none⟩ = false := hu.bx.frozen 8
  have x9 : W.cell? ⟨ub, 9, none⟩ = some (.slice a1 t.frames.length c1) := (hu.bx.cell 9).trans rfl
  have y9 : W.frozen? ⟨ub, 9, none⟩ = false := hu.bx.frozen 9
  have x10 : W.cell? ⟨ub, 10, none⟩ = some (.slice s1 t.stack.length d1) := (hu.bx.cell 10).trans rfl
  have y10 : W.frozen? ⟨ub, 10, none⟩ = false := hu.bx.frozen 10
  have x11 : W.cell? ⟨ub, 11, none⟩ = some (.int .i64 t.code) := (hu.bx.cell 11).trans rfl
  have y11 : W.frozen? ⟨ub, 11, none⟩ = false := hu.bx.frozen 11
  have x12 : W.cell? ⟨ub, 12, none⟩ = some (.int .i64 a) := (hu.bx.cell 12).trans rfl
  have y12 : W.frozen? ⟨ub, 12, none⟩ = false := hu.bx.frozen 12
  have x13 : W.cell? ⟨ub, 13, none⟩ = some (.int .i64 q0.kind) := (hu.bx.cell 13).trans rfl
  have y13 : W.frozen? ⟨ub, 13, none⟩ = false := hu.bx.frozen 13
  have x14 : W.cell? ⟨ub, 14, none⟩ = some (.int .i64 q0.a) := (hu.bx.cell 14).trans rfl
  have y14 : W.frozen? ⟨ub, 14, none⟩ = false := hu.bx.frozen 14
  have x15 : W.cell? ⟨ub, 15, none⟩ = some (.int .i64 q0.v) := (hu.bx.cell 15).trans rfl
  have y15 : W.frozen? ⟨ub, 15, none⟩ = false := hu.bx.frozen 15
  have hg := jump_all ⟨a1, c1, s1, d1⟩ t a W.drew _ (RT.drew hu.rt) hl hm.1 hm.2.1 _ rfl
  have HG := Lib.hid hg
  clear hu hl hg
  have hd : deedV p t ⟨7, a⟩ = (jumpT t a, q0) := rfl
  rw [hd]
  clear hd
  simp only
  generalize jumpT t a = t2 at *
  go_enter Try.func72, Try.ntmps72
  go_upto_region 0 with fail
  go_region_law (go_simp; with_reducible refine HG.out.mono ?_
                 rintro e W1 ⟨⟨a2, c2, s2, d2⟩, rfl, hrt, hb⟩
                 have hbw : Below W.heap.size W W1 := ((Below.refl _ _).drew).trans hb
                 have hr2 := hrt.mono (E := fun i => B ≤ i ∧ i ≠ ub) (fun i hi _ => by rcases hi with hi | hi; exact hi; have := hi; simp at this; (first | omega | (have hBu := HU.out.hB; omega) | (have hBu := HU1.out.hB; omega) | (have hBu := HUS.out.hB; omega)))
                 have HB := Lib.hid hbw; have HR2 := Lib.hid hr2
                 have hu1 := HU.out.below hbw
                 have hs := hbw.size
                 clear hb hbw hrt hr2
                 have x7 : W1.cell? ⟨ub, 7, none⟩ = some (.int .i64 t.state) := (hu1.bx.cell 7).trans rfl
                 have y7 : W1.frozen? ⟨ub, 7, none⟩ = false := hu1.bx.frozen 7
                 have x8 : W1.cell? ⟨ub, 8, none⟩ = some (.int .i64 t.on) := (hu1.bx.cell 8).trans rfl
                 have y8 : W1.frozen? ⟨ub, 8, none⟩ = false := hu1.bx.frozen 8
                 have x9 : W1.cell? ⟨ub, 9, none⟩ = some (.slice a1 t.frames.length c1) := (hu1.bx.cell 9).trans rfl
                 have y9 : W1.frozen? ⟨ub, 9, none⟩ = false := hu1.bx.frozen 9
                 have x10 : W1.cell? ⟨ub, 10, none⟩ = some (.slice s1 t.stack.length d1) := (hu1.bx.cell 10).trans rfl
                 have y10 : W1.frozen? ⟨ub, 10, none⟩ = false := hu1.bx.frozen 10
                 have x11 : W1.cell? ⟨ub, 11, none⟩ = some (.int .i64 t.code) := (hu1.bx.cell 11).trans rfl
                 have y11 : W1.frozen? ⟨ub, 11, none⟩ = false := hu1.bx.frozen 11
                 have hul1 := hu1.bx.lt
                 clear hu1)
  all_goals
    go_wp2_with fail
    go_end0
    have hs := HU.out.setT HB.out HR2.out
    exact ⟨rfl, ⟨_, hs.1⟩, hs.2⟩
set_option maxHeartbeats 4000000 in
set_option maxRecDepth 100000 in
theorem deed10 (h : PH) (p : PV) (ht : TH) (t : TV) (a : Int) (W : World) (ub B : Nat) (hu : US W ub B h p ht t a q0) (hl : LensT t) (hm : 1 ≤ t.frames.length ∧ t.frames.length ≤ 1000000 ∧ t.stack.length ≤ 1000000) :
    Calls Try.prog 78 #[.pointer (some ⟨ub, 0, none⟩)] W fun e W' => e = .returned (.tuple #[]) ∧ (∃ ht' : TH, US W' ub B h p ht' (deedV p t ⟨10, a⟩).1 a (deedV p t ⟨10, a⟩).2) ∧ Fr (fun i => i = ub) W W' := by
  obtain ⟨fA, fc, cA, cc, sA, sc, hA, hc, xA, xc⟩ := h
  obtain ⟨a1, c1, s1, d1⟩ := ht
  have HU := Lib.hid hu
  have hul := hu.bx.lt
  have HL := Lib.hid hl
  clear hu hl
  have hd : deedV p t ⟨10, a⟩ = goV (decide (1 < t.frames.length)) (leaveT t) q0 0 := by
    by_cases hc : 1 < t.frames.length
    · simp [deedV, goV, hc]
    · simp [deedV, goV, hc, endV]
  rw [hd]
  clear hd
  go_enter Try.func78, Try.ntmps78
  go_wp2_with fail
  refine (uleave_any ⟨fA, fc, cA, cc, sA, sc, hA, hc, xA, xc⟩ p ⟨a1, c1, s1, d1⟩ t a q0 W ub B HU.out HL.out hm.1 hm.2.1).mono ?_
  rintro e W1 ⟨rfl, hq, hf⟩
  go_wp2_with fail
  go_end0
  exact ⟨rfl, hq, hf⟩
set_option maxHeartbeats 4000000 in
set_option maxRecDepth 100000 in
theorem deed26 (h : PH) (p : PV) (ht : TH) (t : TV) (a : Int) (W : World) (ub B : Nat) (hu : US W ub B h p ht t a q0) (hl : LensT t) (hm : 1 ≤ t.frames.length ∧ t.frames.length ≤ 1000000 ∧ t.stack.length ≤ 1000000) :
    Calls Try.prog 80 #[.pointer (some ⟨ub, 0, none⟩)] W fun e W' => e = .returned (.tuple #[]) ∧ (∃ ht' : TH, US W' ub B h p ht' (deedV p t ⟨26, a⟩).1 a (deedV p t ⟨26, a⟩).2) ∧ Fr (fun i => i = ub) W W' := by
  obtain ⟨fA, fc, cA, cc, sA, sc, hA, hc, xA, xc⟩ := h
  obtain ⟨a1, c1, s1, d1⟩ := ht
  have HU := Lib.hid hu
  have hul := hu.bx.lt
  clear hu hl
  go_enter Try.func80, Try.ntmps80
  go_wp2_with fail
  refine (uend_any ⟨fA, fc, cA, cc, sA, sc, hA, hc, xA, xc⟩ p ⟨a1, c1, s1, d1⟩ t a q0 0 W ub B HU.out).mono ?_
  rintro e W1 ⟨rfl, hq, hf⟩
  go_wp2_with fail
  go_end0
  exact ⟨rfl, hq, hf⟩
end

section
open Go.RowKit Plain

theorem TD.put {w1 w2 : World} {b : Nat} {D : Nat → Prop} {ht : TH} {t : TV} (hr : RT w2 D ht t) (hD : ∀ i, D i → i ≠ b) (h0 : Blk w1 b 29 #[.int .i64 0, .int .i64 0, .slice none 0 0, .slice none 0 0, .int .i64 0]) (hb : Below w1.heap.size w1 w2) : TD (((((w2.setCell ⟨b, 0, none⟩ (.int .i64 t.state)).setCell ⟨b, 1, none⟩ (.int .i64 t.on)).setCell ⟨b, 2, none⟩ (.slice ht.fA t.frames.length ht.fc)).setCell ⟨b, 3, none⟩ (.slice ht.sA t.stack.length ht.sc)).setCell ⟨b, 4, none⟩ (.int .i64 t.code)) D b ht t := by
  have hfr := (Fr.refl (fun i => i = b) w2).set5 (g := b) (.inl rfl) (.int .i64 t.state) (.int .i64 t.on) (.slice ht.fA t.frames.length ht.fc) (.slice ht.sA t.stack.length ht.sc) (.int .i64 t.code)
  exact ⟨(h0.below hb h0.lt).set5 _ _ _ _ _, hr.keep fun x hd hx => hfr.cell hx (hD _ hd)⟩
set_option maxHeartbeats 4000000 in
set_option maxRecDepth 100000 in
theorem uenter_any (h : PH) (p : PV) (ht : TH) (t : TV) (f : Nat) (q : QV) (W : World) (ub B : Nat) (hu : US W ub B h p ht t (f : Int) q) (hl : LensT t) (hf : f < p.funcs.length) (hfl : FewLoc p) (hpl : p.funcs.length ≤ 9223372036854775807) (t2 : TV) (ok : Bool) (ht2 : t2 = if t.frames.length < 8 then enterT p t (f : Int) else t) (hok : ok = decide (t.frames.length < 8)) :
    Calls Try.prog 77 #[.pointer (some ⟨ub, 0, none⟩)] W fun e W' => e = .returned (.tuple #[]) ∧ (∃ ht' : TH, US W' ub B h p ht' (goV ok t2 q 3).1 (f : Int) (goV ok t2 q 3).2) ∧ Fr (fun i => i = ub) W W' := by
  obtain ⟨fA, fc, cA, cc, sA, sc, hA, hc, xA, xc⟩ := h
  obtain ⟨a1, c1, s1, d1⟩ := ht
  have HU := Lib.hid hu
  have hul := hu.bx.lt
  have hbb := hu.hB
  have KS : Hid (∀ X, Below W.heap.size W X → X.cell? ⟨ub, 0, none⟩ = some (.slice fA p.funcs.length fc) ∧ X.cell? ⟨ub, 1, none⟩ = some (.int .i64 p.mutexes) ∧ X.cell? ⟨ub, 2, none⟩ = some (.slice cA p.conds.length cc) ∧ X.cell? ⟨ub, 3, none⟩ = some (.slice sA p.semas.length sc) ∧ X.cell? ⟨ub, 4, none⟩ = some (.slice hA p.chans.length hc) ∧ X.cell? ⟨ub, 5, none⟩ = some (.slice xA p.choices.length xc) ∧ X.cell? ⟨ub, 6, none⟩ = some (.int .i64 p.threads) ∧ X.cell? ⟨ub, 7, none⟩ = some (.int .i64 t.state) ∧ X.cell? ⟨ub, 8, none⟩ = some (.int .i64 t.on) ∧ X.cell? ⟨ub, 9, none⟩ = some (.slice a1 t.frames.length c1) ∧ X.cell? ⟨ub, 10, none⟩ = some (.slice s1 t.stack.length d1) ∧ X.cell? ⟨ub, 11, none⟩ = some (.int .i64 t.code) ∧ X.cell? ⟨ub, 12, none⟩ = some (.int .i64 (f : Int))) := fun X hX => by
    have g1 := hu.bx.below hX hu.bx.lt
    exact ⟨(g1.cell 0).trans rfl, (g1.cell 1).trans rfl, (g1.cell 2).trans rfl, (g1.cell 3).trans rfl, (g1.cell 4).trans rfl, (g1.cell 5).trans rfl, (g1.cell 6).trans rfl, (g1.cell 7).trans rfl, (g1.cell 8).trans rfl, (g1.cell 9).trans rfl, (g1.cell 10).trans rfl, (g1.cell 11).trans rfl, (g1.cell 12).trans rfl⟩
  have HC : Hid (∀ X, Below W.heap.size W X → Calls Try.prog 95 #[.agg #[.slice fA p.funcs.length fc, .int .i64 p.mutexes, .slice cA p.conds.length cc, .slice sA p.semas.length sc, .slice hA p.chans.length hc, .slice xA p.choices.length xc, .int .i64 p.threads], .agg #[.int .i64 t.state, .int .i64 t.on, .slice a1 t.frames.length c1, .slice s1 t.stack.length d1, .int .i64 t.code], .int .i64 (f : Int)] X fun e w' => ∃ h' : TH, e = .returned (.tuple #[.agg #[.int .i64 t2.state, .int .i64 t2.on, .slice h'.fA t2.frames.length h'.fc, .slice h'.sA t2.stack.length h'.sc, .int .i64 t2.code], .bool ok]) ∧ RT w' (fun i => ((B ≤ i ∧ i ≠ ub) ∧ i < W.heap.size) ∨ X.heap.size ≤ i) h' t2 ∧ Below X.heap.size X w' ∧ Below W.heap.size W w') := fun X hX => by
    have hs := hX.size
    subst hok
    refine (enter_all ⟨fA, fc, cA, cc, sA, sc, hA, hc, xA, xc⟩ p ⟨a1, c1, s1, d1⟩ t f X B (fun i => (B ≤ i ∧ i ≠ ub) ∧ i < W.heap.size) (hu.rp.below (hX.mono (by omega))) (by omega) hfl hpl (hu.rt.cut.below hX) hl hf t2 ht2).mono ?_
    rintro e w' ⟨h', he, hrt, hb⟩
    exact ⟨h', he, hrt, hb, hX.trans (hb.mono hX.size)⟩
  have x0 : W.cell? ⟨ub, 0, none⟩ = some (.slice fA p.funcs.length fc) := (hu.bx.cell 0).trans rfl
  have x1 : W.cell? ⟨ub, 1, none⟩ = some (.int .i64 p.mutexes) := (hu.bx.cell 1).trans rfl
  have x2 : W.cell? ⟨ub, 2, none⟩ = some (.slice cA p.conds.length cc) := (hu.bx.cell 2).trans rfl
  have x3 : W.cell? ⟨ub, 3, none⟩ = some (.slice sA p.semas.length sc) := (hu.bx.cell 3).trans rfl
  have x4 : W.cell? ⟨ub, 4, none⟩ = some (.slice hA p.chans.length hc) := (hu.bx.cell 4).trans rfl
  have x5 : W.cell? ⟨ub, 5, none⟩ = some (.slice xA p.choices.length xc) := (hu.bx.cell 5).trans rfl
  have x6 : W.cell? ⟨ub, 6, none⟩ = some (.int .i64 p.threads) := (hu.bx.cell 6).trans rfl
  have x7 : W.cell? ⟨ub, 7, none⟩ = some (.int .i64 t.state) := (hu.bx.cell 7).trans rfl
  have x8 : W.cell? ⟨ub, 8, none⟩ = some (.int .i64 t.on) := (hu.bx.cell 8).trans rfl
  have x9 : W.cell? ⟨ub, 9, none⟩ = some (.slice a1 t.frames.length c1) := (hu.bx.cell 9).trans rfl
  have x10 : W.cell? ⟨ub, 10, none⟩ = some (.slice s1 t.stack.length d1) := (hu.bx.cell 10).trans rfl
  have x11 : W.cell? ⟨ub, 11, none⟩ = some (.int .i64 t.code) := (hu.bx.cell 11).trans rfl
  have x12 : W.cell? ⟨ub, 12, none⟩ = some (.int .i64 (f : Int)) := (hu.bx.cell 12).trans rfl
  have hBu := hu.hB
  clear hu hl ht2 hok
  go_enter Try.func77, Try.ntmps77
  go_upto_region 0 with fail
  go_cut [2, 3] (fun s2 s3 wx => ∃ (bx : Nat) (h2 : TH), s2 = .pointer (some ⟨bx, 0, none⟩) ∧ s3 = .bool ok ∧ TD wx (fun i => B ≤ i ∧ i ≠ ub) bx h2 t2 ∧ Below W.heap.size W wx)
  case first =>
    go_region_held3 (fun w' => w'.cell? ⟨ub, 0, none⟩ = some (.slice fA p.funcs.length fc) ∧ w'.cell? ⟨ub, 1, none⟩ = some (.int .i64 p.mutexes) ∧ w'.cell? ⟨ub, 2, none⟩ = some (.slice cA p.conds.length cc) ∧ w'.cell? ⟨ub, 3, none⟩ = some (.slice sA p.semas.length sc) ∧ w'.cell? ⟨ub, 4, none⟩ = some (.slice hA p.chans.length hc) ∧ w'.cell? ⟨ub, 5, none⟩ = some (.slice xA p.choices.length xc) ∧ w'.cell? ⟨ub, 6, none⟩ = some (.int .i64 p.threads) ∧ w'.cell? ⟨ub, 7, none⟩ = some (.int .i64 t.state) ∧ w'.cell? ⟨ub, 8, none⟩ = some (.int .i64 t.on) ∧ w'.cell? ⟨ub, 9, none⟩ = some (.slice a1 t.frames.length c1) ∧ w'.cell? ⟨ub, 10, none⟩ = some (.slice s1 t.stack.length d1) ∧ w'.cell? ⟨ub, 11, none⟩ = some (.int .i64 t.code) ∧ w'.cell? ⟨ub, 12, none⟩ = some (.int .i64 (f : Int)))
      (first | (with_reducible exact KS.out _ (by repeat (first | with_reducible assumption | with_reducible exact Below.refl _ _ | with_reducible exact H5.out | with_reducible refine Below.drew ?_ | with_reducible refine Below.setCell ?_ (by first | exact Nat.le_refl _ | exact h5.size | exact H5.out.size | omega) _ | with_reducible refine Below.alloc ?_ (by first | exact h5.size | exact H5.out.size | exact Nat.le_refl _ | omega) _))) | fail)
      (first
        | (go_simp; with_reducible refine (HC.out _ (by repeat (first | with_reducible assumption | with_reducible exact Below.refl _ _ | with_reducible exact H5.out | with_reducible refine Below.drew ?_ | with_reducible refine Below.setCell ?_ (by first | exact Nat.le_refl _ | exact h5.size | exact H5.out.size | omega) _ | with_reducible refine Below.alloc ?_ (by first | exact h5.size | exact H5.out.size | exact Nat.le_refl _ | omega) _))).mono ?_; rintro e w5 ⟨⟨a2, c2, s2, d2⟩, rfl, hrt5, h4, h5⟩
           first
             | (have nb0 : Blk w5 W.heap.size 29 #[.int .i64 0, .int .i64 0, .slice none 0 0, .slice none 0 0, .int .i64 0] := (Blk.drew (Blk.new W 29 #[.int .i64 0, .int .i64 0, .slice none 0 0, .slice none 0 0, .int .i64 0])).below h4 (by simp)
                have n0 : w5.cell? ⟨W.heap.size, 0, none⟩ = some (.int .i64 0) := (nb0.cell 0).trans rfl
                have m0 : w5.frozen? ⟨W.heap.size, 0, none⟩ = false := nb0.frozen 0
                have n1 : w5.cell? ⟨W.heap.size, 1, none⟩ = some (.int .i64 0) := (nb0.cell 1).trans rfl
                have m1 : w5.frozen? ⟨W.heap.size, 1, none⟩ = false := nb0.frozen 1
                have n2 : w5.cell? ⟨W.heap.size, 2, none⟩ = some (.slice none 0 0) := (nb0.cell 2).trans rfl
                have m2 : w5.frozen? ⟨W.heap.size, 2, none⟩ = false := nb0.frozen 2
                have n3 : w5.cell? ⟨W.heap.size, 3, none⟩ = some (.slice none 0 0) := (nb0.cell 3).trans rfl
                have m3 : w5.frozen? ⟨W.heap.size, 3, none⟩ = false := nb0.frozen 3
                have n4 : w5.cell? ⟨W.heap.size, 4, none⟩ = some (.int .i64 0) := (nb0.cell 4).trans rfl
                have m4 : w5.frozen? ⟨W.heap.size, 4, none⟩ = false := nb0.frozen 4
                have hzz : W.heap.size < w5.heap.size := nb0.lt
                have H5 := Lib.hid h5; have H4 := Lib.hid h4; have HRT5 := Lib.hid hrt5
                clear nb0 h5 h4 hrt5)
             | (have H5 := Lib.hid h5; have H4 := Lib.hid h4; have HRT5 := Lib.hid hrt5
                clear h5 h4 hrt5)))
    all_goals
      go_wp2_with fail
      go_meet
      have h5 := H5.out
      have h4 := H4.out
      have hrt5 := HRT5.out
      have hs5 := h5.size
      first
        | exact ⟨_, ⟨a2, c2, s2, d2⟩, rfl, rfl, (TD.new hrt5).mono (fun i hi _ => by rcases hi with hi | hi; exact hi.1; simp at hi; omega), h5.alloc h5.size _⟩
        | (have hp := TD.put (w1 := (W.alloc (.cells #[.int .i64 0, .int .i64 0, .slice none 0 0, .slice none 0 0, .int .i64 0] 29)).drew) (b := W.heap.size) hrt5 (fun i hi e => by simp at hi; omega) (Blk.drew (Blk.new W 29 #[.int .i64 0, .int .i64 0, .slice none 0 0, .slice none 0 0, .int .i64 0])) h4
           have hfr := (Fr.refl (fun i => i = W.heap.size) w5).set5 (g := W.heap.size) (.inl rfl) (.int .i64 t2.state) (.int .i64 t2.on) (.slice a2 t2.frames.length c2) (.slice s2 t2.stack.length d2) (.int .i64 t2.code)
           exact ⟨_, ⟨a2, c2, s2, d2⟩, rfl, rfl, hp.mono (fun i hi _ => by rcases hi with hi | hi; exact hi.1; simp at hi; omega), h5.trans (hfr.below h5.size (fun i hi => by omega))⟩)
  case rest =>
  obtain ⟨bx, ⟨a2, c2, s2, d2⟩, rfl, rfl, htd, hb⟩ := hcut
  have HTD := Lib.hid htd; have HB := Lib.hid hb
  have hu1 := HU.out.below hb
  have HU1 := Lib.hid hu1
  have hs := hb.size
  have v0 : wc.cell? ⟨bx, 0, none⟩ = some (.int .i64 t2.state) := (htd.tb.cell 0).trans rfl
  have v1 : wc.cell? ⟨bx, 1, none⟩ = some (.int .i64 t2.on) := (htd.tb.cell 1).trans rfl
  have v2 : wc.cell? ⟨bx, 2, none⟩ = some (.slice a2 t2.frames.length c2) := (htd.tb.cell 2).trans rfl
  have v3 : wc.cell? ⟨bx, 3, none⟩ = some (.slice s2 t2.stack.length d2) := (htd.tb.cell 3).trans rfl
  have v4 : wc.cell? ⟨bx, 4, none⟩ = some (.int .i64 t2.code) := (htd.tb.cell 4).trans rfl
  have hbl := htd.tb.lt
  clear htd hb hu1 KS HC x0 x1 x2 x3 x4 x5 x6 x7 x8 x9 x10 x11 x12
  go_wp2_with fail
  refine (goOn_any ⟨fA, fc, cA, cc, sA, sc, hA, hc, xA, xc⟩ p ⟨a1, c1, s1, d1⟩ t (f : Int) q ok a2 c2 s2 d2 t2 3 _ ub B HU1.out HTD.out.rt).mono ?_
  rintro e W2 ⟨rfl, hq, hf⟩
  go_wp2_with fail
  go_end0
  exact ⟨rfl, hq, ((Fr.of_below HB.out).mono (S := fun i => i = ub) (fun i hi hT => by omega)).trans hf (fun i _ h => h)⟩
set_option maxHeartbeats 4000000 in
set_option maxRecDepth 100000 in
theorem deed9 (h : PH) (p : PV) (ht : TH) (t : TV) (a : Int) (W : World) (ub B : Nat) (hu : US W ub B h p ht t a q0) (hl : LensT t) (hm : 1 ≤ t.frames.length ∧ t.frames.length ≤ 1000000 ∧ t.stack.length ≤ 1000000) (hi : 0 ≤ a ∧ a < p.funcs.length ∧ FewLoc p ∧ p.funcs.length ≤ 9223372036854775807) :
    Calls Try.prog 76 #[.pointer (some ⟨ub, 0, none⟩)] W fun e W' => e = .returned (.tuple #[]) ∧ (∃ ht' : TH, US W' ub B h p ht' (deedV p t ⟨9, a⟩).1 a (deedV p t ⟨9, a⟩).2) ∧ Fr (fun i => i = ub) W W' := by
  obtain ⟨fA, fc, cA, cc, sA, sc, hA, hc, xA, xc⟩ := h
  obtain ⟨a1, c1, s1, d1⟩ := ht
  have HU := Lib.hid hu
  have hul := hu.bx.lt
  have HL := Lib.hid hl; have HF := Lib.hid hi
  clear hu hl
  obtain ⟨hi0, hi1, hfl, hpl⟩ := hi
  obtain ⟨f, rfl⟩ := Int.eq_ofNat_of_zero_le hi0
  have hd : deedV p t ⟨9, (f : Int)⟩ = goV (decide (t.frames.length < 8)) (if t.frames.length < 8 then enterT p t (f : Int) else t) q0 3 := by
    by_cases hc : t.frames.length < 8
    · simp [deedV, goV, hc]
    · simp [deedV, goV, hc, endV]
  rw [hd]
  clear hd
  generalize ht2 : (if t.frames.length < 8 then enterT p t (f : Int) else t) = t2 at *
  generalize hok : decide (t.frames.length < 8) = ok at *
  have HT2 := Lib.hid ht2; have HOK := Lib.hid hok; have HFL := Lib.hid hfl
  have hfn : f < p.funcs.length := by omega
  clear ht2 hok hfl HF hi0 hi1
  go_enter Try.func76, Try.ntmps76
  go_wp2_with fail
  refine (uenter_any ⟨fA, fc, cA, cc, sA, sc, hA, hc, xA, xc⟩ p ⟨a1, c1, s1, d1⟩ t f q0 W ub B HU.out HL.out hfn HFL.out hpl t2 ok HT2.out.symm HOK.out.symm).mono ?_
  rintro e W1 ⟨rfl, hq, hf⟩
  go_wp2_with fail
  go_end0
  exact ⟨rfl, hq, hf⟩
end
end Go.Proofs.Ytkciedcfphhenaa
