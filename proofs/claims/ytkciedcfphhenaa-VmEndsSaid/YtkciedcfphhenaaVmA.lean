
/-
  vm: the deeds of all instructions, in a map.
-/
import Derived.Test.YtkciedcfphhenaaKeepC
import Derived.Test.YtkciedcfphhenaaMapF
set_option linter.unusedVariables false
set_option linter.unusedSimpArgs false
namespace Go.Proofs.Ytkciedcfphhenaa
open Go.RowKit Plain

/-- All deeds, in the row in which they are laid; b: the map's block; the boxes of those that ask stand behind it. -/
def dl (b : Nat) : List (Int × Value) :=
  [(0, .func (.func 55) #[] #[]),
   (1, .func (.func 57) #[] #[]),
   (2, .func (.func 60) #[] #[]),
   (3, .func (.func 62) #[] #[]),
   (4, .func (.func 65) #[] #[]),
   (5, .func (.func 67) #[] #[]),
   (6, .func (.func 69) #[] #[]),
   (7, .func (.func 72) #[] #[]),
   (8, .func (.func 74) #[] #[]),
   (9, .func (.func 76) #[] #[]),
   (10, .func (.func 78) #[] #[]),
   (26, .func (.func 80) #[] #[]),
   (12, .func (.func 97) #[] #[.pointer (some ⟨b + 1 + 0, 0, none⟩)]),
   (11, .func (.func 97) #[] #[.pointer (some ⟨b + 1 + 1, 0, none⟩)]),
   (15, .func (.func 97) #[] #[.pointer (some ⟨b + 1 + 2, 0, none⟩)]),
   (16, .func (.func 97) #[] #[.pointer (some ⟨b + 1 + 3, 0, none⟩)]),
   (17, .func (.func 97) #[] #[.pointer (some ⟨b + 1 + 4, 0, none⟩)]),
   (18, .func (.func 97) #[] #[.pointer (some ⟨b + 1 + 5, 0, none⟩)]),
   (19, .func (.func 97) #[] #[.pointer (some ⟨b + 1 + 6, 0, none⟩)]),
   (20, .func (.func 97) #[] #[.pointer (some ⟨b + 1 + 7, 0, none⟩)]),
   (21, .func (.func 97) #[] #[.pointer (some ⟨b + 1 + 8, 0, none⟩)]),
   (23, .func (.func 97) #[] #[.pointer (some ⟨b + 1 + 9, 0, none⟩)]),
   (24, .func (.func 97) #[] #[.pointer (some ⟨b + 1 + 10, 0, none⟩)]),
   (13, .func (.func 98) #[] #[.pointer (some ⟨b + 1 + 11, 0, none⟩)]),
   (14, .func (.func 98) #[] #[.pointer (some ⟨b + 1 + 12, 0, none⟩)]),
   (25, .func (.func 98) #[] #[.pointer (some ⟨b + 1 + 13, 0, none⟩)]),
   (22, .func (.func 98) #[] #[.pointer (some ⟨b + 1 + 14, 0, none⟩)])]
def dk : List Int := [0, 1, 2, 3, 4, 5, 6, 7, 8, 9, 10, 26, 12, 11, 15, 16, 17, 18, 19, 20, 21, 23, 24, 13, 14, 25, 22]
/-- What they ask for. -/
def kd : List Int := [2, 3, 6, 7, 8, 9, 10, 11, 12, 14, 15, 4, 5, 16, 13]
theorem dl_keys (b : Nat) : (dl b).map Prod.fst = dk := rfl
theorem dk_apart : ∀ m < 27, ∀ j < m, dk[j]? ≠ dk[m]? := by decide
theorem dl_fresh (b m : Nat) (p : Int × Value) (hp : (dl b)[m]? = some p) : ∀ q ∈ (dl b).take m, q.1 ≠ p.1 := by
  intro q hq e
  have hm : m < 27 := (List.getElem?_eq_some_iff.1 hp).1
  obtain ⟨j, hj⟩ := List.getElem?_of_mem hq
  have hjm : j < m := by have := (List.getElem?_eq_some_iff.1 hj).1; rw [List.length_take] at this; omega
  rw [List.getElem?_take, if_pos hjm] at hj
  have h1 : dk[j]? = some q.1 := by rw [← dl_keys b, List.getElem?_map, hj]; rfl
  have h2 : dk[m]? = some p.1 := by rw [← dl_keys b, List.getElem?_map, hp]; rfl
  exact dk_apart m hm j hjm (by rw [h1, h2, e])
/-- While the deeds are laid: m of them are in the map, q of those that ask have their boxes. -/
structure DI (w W : World) (m q : Nat) : Prop where
  size : W.heap.size = w.heap.size + 1 + q
  mp : IsM W w.heap.size ((dl w.heap.size).take m)
  bx : ∀ i, i < q → ∃ k, kd[i]? = some k ∧ Blk W (w.heap.size + 1 + i) 3 #[.int .i64 k]
  bel : Below w.heap.size w W
theorem DI.start (w : World) : DI w (w.alloc (.map #[] 0)) 0 0 :=
  ⟨by simp, heap_alloc_new w _, fun i hi => absurd hi (by omega), (Below.refl _ _).alloc (Nat.le_refl _) _⟩
section
variable {P : Program} {mt kt et : TypeId}
theorem DI.put {w W : World} {m q : Nat} (g : DI w W m q) (hm : P.underlying mt = some (.map kt et)) (hk : P.underlying kt = some (.int .i64)) (p : Int × Value) (hp : (dl w.heap.size)[m]? = some p) :
    ∃ W', (Instr.mapUpdate mt (.map (some w.heap.size)) (.int .i64 p.1) p.2).run P W = .ok () W' ∧ DI w W' (m + 1) q := by
  obtain ⟨W', h1, h2, h3, h4⟩ := g.mp.put hm hk p.1 p.2 (dl_fresh _ _ p hp)
  have e : (dl w.heap.size).take m ++ [(p.1, p.2)] = (dl w.heap.size).take (m + 1) := by rw [List.take_add_one, hp]; rfl
  rw [e] at h2
  exact ⟨W', h1, by rw [h4]; exact g.size, h2, fun i hi => by obtain ⟨k, hk, hb⟩ := g.bx i hi; exact ⟨k, hk, h3.blk hb (by omega)⟩, g.bel.trans (h3.below (by rw [g.size]; omega) (fun i hi => by omega))⟩
theorem wpList_deed {ops : Array Oper} {rest : List Oper} {o : Oper} {a : Act} {Q : Exit → Act → World → Prop} (w W : World) (hg : o.guard = none) (mo x v : Operand) (hop : o.op = Op.insert mt mo x v)
    (hmt : P.underlying mt = some (.map kt et)) (hk : P.underlying kt = some (.int .i64)) (m q : Nat) (g : DI w W m q) (p : Int × Value) (hp : (dl w.heap.size)[m]? = some p) (hm : a.eval mo = .map (some w.heap.size)) (hx : a.eval x = .int .i64 p.1) (hv : a.eval v = p.2)
    (hK : ∀ W', DI w W' (m + 1) q → wpList P ops Q rest (a.put o.dst undef) W') : wpList P ops Q (o :: rest) a W := by
  refine wpList_plain hg fun K' hK' => ?_
  obtain ⟨W', hrun, hd⟩ := g.put hmt hk p hp
  unfold Oper.wp
  simp [execOp, hop, hm, hx, hv, hrun, Result.andThen]
  exact hK' _ _ (hK W' hd)
end
theorem DI.box {w W : World} {m q : Nat} (g : DI w W m q) {k : Int} (hk : kd[q]? = some k) : DI w (W.alloc (.cells #[.int .i64 k] 3)) m (q + 1) := by
  have hb : Below W.heap.size W (W.alloc (.cells #[.int .i64 k] 3)) := (Below.refl _ _).alloc (Nat.le_refl _) _
  refine ⟨by simp [g.size]; omega, g.mp.fr (Fr.of_below hb) (by have := g.mp.lt; omega), fun i hi => ?_, g.bel.trans (hb.mono (by rw [g.size]; omega))⟩
  by_cases e : i < q
  · obtain ⟨k', h1, h2⟩ := g.bx i e
    exact ⟨k', h1, h2.alloc _⟩
  · obtain rfl : i = q := by omega
    refine ⟨k, hk, ?_⟩
    have := Blk.new W 3 #[.int .i64 k]
    rw [g.size] at this
    exact this
theorem ask_any {w W : World} {m q : Nat} (k : Int) (g : DI w W m q) (hk : kd[q]? = some k) : Calls Try.prog 81 #[.int .i64 k] W fun e W' => e = .returned (.func (.func 97) #[] #[.pointer (some ⟨w.heap.size + 1 + q, 0, none⟩)]) ∧ DI w W' m (q + 1) := by
  have HD := Lib.hid (g.box hk)
  have hs := g.size
  have HS := Lib.hid hs
  clear g hk hs
  go_enter Try.func81, Try.ntmps81
  go_wp2_with fail
  go_ret
  exact ⟨by rw [HS.out]; rfl, HD.out⟩
theorem askN_any {w W : World} {m q : Nat} (k : Int) (g : DI w W m q) (hk : kd[q]? = some k) : Calls Try.prog 82 #[.int .i64 k] W fun e W' => e = .returned (.func (.func 98) #[] #[.pointer (some ⟨w.heap.size + 1 + q, 0, none⟩)]) ∧ DI w W' m (q + 1) := by
  have HD := Lib.hid (g.box hk)
  have hs := g.size
  have HS := Lib.hid hs
  clear g hk hs
  go_enter Try.func82, Try.ntmps82
  go_wp2_with fail
  go_ret
  exact ⟨by rw [HS.out]; rfl, HD.out⟩
set_option maxHeartbeats 4000000 in
set_option maxRecDepth 100000 in
theorem deeds_any (w : World) : Calls Try.prog 32 #[] w fun e w' => e = .returned (.map (some w.heap.size)) ∧ DI w w' 27 15 := by
  have hmk := fun W => run_makeMap (P := Try.prog) 72 W
  have HD := Lib.hid (DI.start w)
  go_enter Try.func32, Try.ntmps32
  go_wp2_with (first
    | (refine wpList_deed w _ rfl _ _ _ rfl Try.underlying72 Try.underlying3 _ _ HD.out _ rfl rfl rfl rfl ?_
       intro W' hd'
       clear HD
       have HD := Lib.hid hd'
       clear hd')
    | ((with_reducible refine (ask_any _ HD.out rfl).mono ?_)
       rintro e W' ⟨rfl, hd'⟩
       clear HD
       have HD := Lib.hid hd'
       clear hd')
    | ((with_reducible refine (askN_any _ HD.out rfl).mono ?_)
       rintro e W' ⟨rfl, hd'⟩
       clear HD
       have HD := Lib.hid hd'
       clear hd'))
  go_ret
  exact ⟨rfl, HD.out⟩
end Go.Proofs.Ytkciedcfphhenaa
