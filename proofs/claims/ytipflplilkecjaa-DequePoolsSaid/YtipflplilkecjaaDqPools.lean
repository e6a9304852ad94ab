
/-
  DequePools: where it stands.
-/
import Derived.Test.YtipflplilkecjaaDqDoes
set_option linter.unusedVariables false
set_option linter.unusedSimpArgs false
namespace Go.Proofs.Ytipflplilkecjaa
open Go.RowKit Plain

/-- Where DequePools stands. -/
structure PoI (w wr : World) (g d s bx room N : Nat) (Dq : Nat → Prop) (L : List (List Int)) (Q : List Int) (M : Nat) (lA gA : Option Addr) (lc gc : Nat) : Prop where
  pl : Pl wr g d s room Dq L Q
  box : Blk wr bx 28 (DocV room lA N lc gA M gc)
  doc : DocP wr (fun k => ¬ PlD d s Dq k ∧ ¬ (k = bx)) lA lc gA gc L Q
  nb : ¬ PlD d s Dq bx
  lo : ∀ i, PlD d s Dq i → w.heap.size ≤ i
  blo : w.heap.size ≤ bx
  len : L.length = N
  lenq : Q.length = M
  bel : Below w.heap.size w wr
/-- Where it stands when a deed was done, and the document's pool then lies in a box of its own. -/
def PoC (w : World) (g d s bx room N : Nat) (M : Nat) (lA gA : Option Addr) (lc gc : Nat) (L' : List (List Int)) (Q' : List Int) (s10 s11 : Value) (W : World) : Prop :=
  ∃ (nb : Nat) (Dq' : Nat → Prop) (lA' gA' : Option Addr) (lc' gc' M' : Nat), s10 = .pointer (some ⟨nb, 0, none⟩) ∧ s11 = .bool true ∧ nb ≠ bx ∧ Q'.length = M' ∧ Blk W nb 28 (DocV room lA' N lc' gA' M' gc') ∧ Pl W g d s room Dq' L' Q' ∧ DocP W (fun k => ¬ PlD d s Dq' k ∧ ¬ (k = bx)) lA' lc' gA' gc' L' Q' ∧ Blk W bx 28 (DocV room lA N lc gA M gc) ∧ ¬ PlD d s Dq' bx ∧ (∀ i, PlD d s Dq' i → w.heap.size ≤ i) ∧ Below w.heap.size w W
section
variable {w wr W w6 : World} {g d s bx room N : Nat} {Dq Dq' : Nat → Prop} {L L' : List (List Int)} {Q Q' : List Int} {M M' : Nat} {lA gA lA' gA' : Option Addr} {lc gc lc' gc' : Nat} {ki wi ni : Int} {da : Addr}
theorem PoI.below (h : PoI w wr g d s bx room N Dq L Q M lA gA lc gc) (hb : Below wr.heap.size wr W) : PoI w W g d s bx room N Dq L Q M lA gA lc gc :=
  ⟨h.pl.below hb (Nat.le_refl _), h.box.below hb h.box.lt, h.doc.below hb (Nat.le_refl _), h.nb, h.lo, h.blo, h.len, h.lenq, h.bel.trans (hb.mono h.bel.size)⟩
/-- Its cells stay while a deed is done. -/
theorem PoI.keeps (h : PoI w wr g d s bx room N Dq L Q M lA gA lc gc) (hda : da.block < w.heap.size) (hb : Below wr.heap.size wr W) (hf : Fr (PlD d s Dq) W w6) (hS : wr.cell? ⟨bx, 0, none⟩ = some (.int .i64 (room : Int)) ∧ wr.cell? ⟨bx, 1, none⟩ = some (.slice lA N lc) ∧ wr.cell? ⟨bx, 2, none⟩ = some (.slice gA M gc) ∧ wr.cell? da = some (.int .i64 ki) ∧ wr.cell? ⟨da.block, da.off + 1, none⟩ = some (.int .i64 wi) ∧ wr.cell? ⟨da.block, da.off + 2, none⟩ = some (.int .i64 ni)) : w6.cell? ⟨bx, 0, none⟩ = some (.int .i64 (room : Int)) ∧ w6.cell? ⟨bx, 1, none⟩ = some (.slice lA N lc) ∧ w6.cell? ⟨bx, 2, none⟩ = some (.slice gA M gc) ∧ w6.cell? da = some (.int .i64 ki) ∧ w6.cell? ⟨da.block, da.off + 1, none⟩ = some (.int .i64 wi) ∧ w6.cell? ⟨da.block, da.off + 2, none⟩ = some (.int .i64 ni) := by
  have hz := hb.size
  have h1 := h.box.lt
  have h2 := h.bel.size
  have k1 : ∀ p : Addr, p.block = bx → w6.cell? p = wr.cell? p := fun p hp => (hf.cell (by rw [hp]; omega) (by rw [hp]; exact h.nb)).trans (hb.cell (by rw [hp]; exact h1))
  have k2 : ∀ p : Addr, p.block = da.block → w6.cell? p = wr.cell? p := fun p hp => (hf.cell (by rw [hp]; omega) (by rw [hp]; exact fun e => by have := h.lo _ e; omega)).trans (hb.cell (by rw [hp]; omega))
  exact ⟨(k1 _ rfl).trans hS.1, (k1 _ rfl).trans hS.2.1, (k1 _ rfl).trans hS.2.2.1, (k2 _ rfl).trans hS.2.2.2.1, (k2 ⟨da.block, da.off + 1, none⟩ rfl).trans hS.2.2.2.2.1, (k2 ⟨da.block, da.off + 2, none⟩ rfl).trans hS.2.2.2.2.2⟩
/-- The deed, in whatever world the order of the statement comes to. -/
theorem PoI.does (h : PoI w wr g d s bx room N Dq L Q M lA gA lc gc) (hM6 : M ≤ 100000) (hb : Below wr.heap.size wr W) (ki wi ni : Int) :
    Calls Try.prog 11 #[.pointer (some ⟨g, 0, none⟩), .agg (DocV room lA N lc gA M gc), .agg #[.int .i64 ki, .int .i64 wi, .int .i64 ni]] W fun e w' => ∃ v, e = .returned (.tuple #[v, .bool true]) ∧ DoesR g d s room N Dq (fun k => k = bx ∨ (wr.heap.size ≤ k ∧ k < W.heap.size)) W w' (doesP room L Q ki wi ni).1 (doesP room L Q ki wi ni).2 v :=
  does_any g d s room Dq L Q W _ (fun k hk => by have := h.box.lt; have := hb.size; omega) (h.pl.below hb (Nat.le_refl _)) lA gA lc gc ((h.doc.mono (E' := fun k => ¬ PlD d s Dq k ∧ ¬ (k = bx ∨ (wr.heap.size ≤ k ∧ k < W.heap.size))) (fun i h1 h2 => ⟨h1.1, fun e => by rcases e with e | e; exact h1.2 e; omega⟩)).below hb (Nat.le_refl _)) N M h.len h.lenq hM6 wi ni ki
/-- What is known of a deed that was done. -/
def DidR (w wr W w6 : World) (g d s bx room N : Nat) (Dq : Nat → Prop) (lA' gA' : Option Addr) (lc' gc' M' : Nat) (L' : List (List Int)) (Q' : List Int) : Prop :=
  ∃ Dq', Q'.length = M' ∧ Pl w6 g d s room Dq' L' Q' ∧ DocP w6 (fun k => ¬ PlD d s Dq' k ∧ ¬ (k = bx ∨ (wr.heap.size ≤ k ∧ k < W.heap.size))) lA' lc' gA' gc' L' Q' ∧ Fr (PlD d s Dq) W w6 ∧ (∀ i, PlD d s Dq' i → PlD d s Dq i ∨ W.heap.size ≤ i)
theorem PoI.did1 (h : PoI w wr g d s bx room N Dq L Q M lA gA lc gc) (hM6 : M ≤ 100000) (hda : da.block < w.heap.size) (hS : wr.cell? ⟨bx, 0, none⟩ = some (.int .i64 (room : Int)) ∧ wr.cell? ⟨bx, 1, none⟩ = some (.slice lA N lc) ∧ wr.cell? ⟨bx, 2, none⟩ = some (.slice gA M gc) ∧ wr.cell? da = some (.int .i64 ki) ∧ wr.cell? ⟨da.block, da.off + 1, none⟩ = some (.int .i64 wi) ∧ wr.cell? ⟨da.block, da.off + 2, none⟩ = some (.int .i64 ni)) :
    Calls Try.prog 11 #[.pointer (some ⟨g, 0, none⟩), .agg (DocV room lA N lc gA M gc), .agg #[.int .i64 ki, .int .i64 wi, .int .i64 ni]] wr.drew fun e w6 => ∃ lA' gA' lc' gc' M', e = .returned (.tuple #[.agg (DocV room lA' N lc' gA' M' gc'), .bool true]) ∧ Hid (DidR w wr wr.drew w6 g d s bx room N Dq lA' gA' lc' gc' M' (doesP room L Q ki wi ni).1 (doesP room L Q ki wi ni).2) ∧ (w6.cell? ⟨bx, 0, none⟩ = some (.int .i64 (room : Int)) ∧ w6.cell? ⟨bx, 1, none⟩ = some (.slice lA N lc) ∧ w6.cell? ⟨bx, 2, none⟩ = some (.slice gA M gc) ∧ w6.cell? da = some (.int .i64 ki) ∧ w6.cell? ⟨da.block, da.off + 1, none⟩ = some (.int .i64 wi) ∧ w6.cell? ⟨da.block, da.off + 2, none⟩ = some (.int .i64 ni)) ∧ ((w6.alloc (.cells #[.int .i64 (room : Int), .slice lA' N lc', .slice gA' M' gc'] 28)).cell? ⟨bx, 0, none⟩ = some (.int .i64 (room : Int)) ∧ (w6.alloc (.cells #[.int .i64 (room : Int), .slice lA' N lc', .slice gA' M' gc'] 28)).cell? ⟨bx, 1, none⟩ = some (.slice lA N lc) ∧ (w6.alloc (.cells #[.int .i64 (room : Int), .slice lA' N lc', .slice gA' M' gc'] 28)).cell? ⟨bx, 2, none⟩ = some (.slice gA M gc) ∧ (w6.alloc (.cells #[.int .i64 (room : Int), .slice lA' N lc', .slice gA' M' gc'] 28)).cell? da = some (.int .i64 ki) ∧ (w6.alloc (.cells #[.int .i64 (room : Int), .slice lA' N lc', .slice gA' M' gc'] 28)).cell? ⟨da.block, da.off + 1, none⟩ = some (.int .i64 wi) ∧ (w6.alloc (.cells #[.int .i64 (room : Int), .slice lA' N lc', .slice gA' M' gc'] 28)).cell? ⟨da.block, da.off + 2, none⟩ = some (.int .i64 ni)) := by
  have hb : Below wr.heap.size wr wr.drew := (Below.refl _ _).drew
  refine (h.does hM6 hb ki wi ni).mono ?_
  rintro e w6 ⟨v, rfl, Dq', lA', lc', gA', gc', rfl, h1, h2, h3, h4⟩
  have k := h.keeps hda hb h3 hS
  have hz := h3.size
  have h5 : bx < w6.heap.size := Nat.lt_of_lt_of_le h.box.lt hz
  have h6 : da.block < w6.heap.size := Nat.lt_of_lt_of_le hda (Nat.le_trans h.bel.size hz)
  have ka : ∀ p : Addr, p.block < w6.heap.size → ∀ o, (w6.alloc o).cell? p = w6.cell? p := fun p hp o => World.cell?_alloc_lt w6 o p hp
  exact ⟨lA', gA', lc', gc', _, rfl, Lib.hid ⟨Dq', rfl, h1, h2, h3, h4⟩, k, (ka _ h5 _).trans k.1, (ka _ h5 _).trans k.2.1, (ka _ h5 _).trans k.2.2.1, (ka _ h6 _).trans k.2.2.2.1, (ka ⟨da.block, da.off + 1, none⟩ h6 _).trans k.2.2.2.2.1, (ka ⟨da.block, da.off + 2, none⟩ h6 _).trans k.2.2.2.2.2⟩
theorem PoI.did2 (h : PoI w wr g d s bx room N Dq L Q M lA gA lc gc) (hM6 : M ≤ 100000) (hda : da.block < w.heap.size) (hS : wr.cell? ⟨bx, 0, none⟩ = some (.int .i64 (room : Int)) ∧ wr.cell? ⟨bx, 1, none⟩ = some (.slice lA N lc) ∧ wr.cell? ⟨bx, 2, none⟩ = some (.slice gA M gc) ∧ wr.cell? da = some (.int .i64 ki) ∧ wr.cell? ⟨da.block, da.off + 1, none⟩ = some (.int .i64 wi) ∧ wr.cell? ⟨da.block, da.off + 2, none⟩ = some (.int .i64 ni)) :
    Calls Try.prog 11 #[.pointer (some ⟨g, 0, none⟩), .agg (DocV room lA N lc gA M gc), .agg #[.int .i64 ki, .int .i64 wi, .int .i64 ni]] (wr.alloc (.cells #[.int .i64 0, .slice none 0 0, .slice none 0 0] 28)).drew fun e w6 => ∃ lA' gA' lc' gc' M', e = .returned (.tuple #[.agg (DocV room lA' N lc' gA' M' gc'), .bool true]) ∧ Hid (DidR w wr (wr.alloc (.cells #[.int .i64 0, .slice none 0 0, .slice none 0 0] 28)).drew w6 g d s bx room N Dq lA' gA' lc' gc' M' (doesP room L Q ki wi ni).1 (doesP room L Q ki wi ni).2) ∧ (w6.cell? ⟨bx, 0, none⟩ = some (.int .i64 (room : Int)) ∧ w6.cell? ⟨bx, 1, none⟩ = some (.slice lA N lc) ∧ w6.cell? ⟨bx, 2, none⟩ = some (.slice gA M gc) ∧ w6.cell? da = some (.int .i64 ki) ∧ w6.cell? ⟨da.block, da.off + 1, none⟩ = some (.int .i64 wi) ∧ w6.cell? ⟨da.block, da.off + 2, none⟩ = some (.int .i64 ni)) ∧ ((((w6.setCell ⟨wr.heap.size, 0, none⟩ (.int .i64 (room : Int))).setCell ⟨wr.heap.size, 1, none⟩ (.slice lA' N lc')).setCell ⟨wr.heap.size, 2, none⟩ (.slice gA' M' gc')).cell? ⟨bx, 0, none⟩ = some (.int .i64 (room : Int)) ∧ (((w6.setCell ⟨wr.heap.size, 0, none⟩ (.int .i64 (room : Int))).setCell ⟨wr.heap.size, 1, none⟩ (.slice lA' N lc')).setCell ⟨wr.heap.size, 2, none⟩ (.slice gA' M' gc')).cell? ⟨bx, 1, none⟩ = some (.slice lA N lc) ∧ (((w6.setCell ⟨wr.heap.size, 0, none⟩ (.int .i64 (room : Int))).setCell ⟨wr.heap.size, 1, none⟩ (.slice lA' N lc')).setCell ⟨wr.heap.size, 2, none⟩ (.slice gA' M' gc')).cell? ⟨bx, 2, none⟩ = some (.slice gA M gc) ∧ (((w6.setCell ⟨wr.heap.size, 0, none⟩ (.int .i64 (room : Int))).setCell ⟨wr.heap.size, 1, none⟩ (.slice lA' N lc')).setCell ⟨wr.heap.size, 2, none⟩ (.slice gA' M' gc')).cell? da = some (.int .i64 ki) ∧ (((w6.setCell ⟨wr.heap.size, 0, none⟩ (.int .i64 (room : Int))).setCell ⟨wr.heap.size, 1, none⟩ (.slice lA' N lc')).setCell ⟨wr.heap.size, 2, none⟩ (.slice gA' M' gc')).cell? ⟨da.block, da.off + 1, none⟩ = some (.int .i64 wi) ∧ (((w6.setCell ⟨wr.heap.size, 0, none⟩ (.int .i64 (room : Int))).setCell ⟨wr.heap.size, 1, none⟩ (.slice lA' N lc')).setCell ⟨wr.heap.size, 2, none⟩ (.slice gA' M' gc')).cell? ⟨da.block, da.off + 2, none⟩ = some (.int .i64 ni)) ∧ (w6.cell? ⟨wr.heap.size, 0, none⟩ = some (.int .i64 0) ∧ w6.cell? ⟨wr.heap.size, 1, none⟩ = some (.slice none 0 0) ∧ w6.cell? ⟨wr.heap.size, 2, none⟩ = some (.slice none 0 0)) ∧ w6.frozen? ⟨wr.heap.size, 0, none⟩ = false ∧ w6.frozen? ⟨wr.heap.size, 1, none⟩ = false ∧ w6.frozen? ⟨wr.heap.size, 2, none⟩ = false := by
  have hb : Below wr.heap.size wr (wr.alloc (.cells #[.int .i64 0, .slice none 0 0, .slice none 0 0] 28)).drew := ((Below.refl _ _).alloc (Nat.le_refl _) _).drew
  refine (h.does hM6 hb ki wi ni).mono ?_
  rintro e w6 ⟨v, rfl, Dq', lA', lc', gA', gc', rfl, h1, h2, h3, h4⟩
  have k := h.keeps hda hb h3 hS
  have h5 := h.box.lt
  have h6 := h.bel.size
  have kn : Blk w6 wr.heap.size 28 #[.int .i64 0, .slice none 0 0, .slice none 0 0] := h3.blk (Blk.new wr _ _).drew (fun e => by have := h.pl.bound _ e; omega)
  have ks := fun (p : Addr) (hp : p.block ≠ wr.heap.size) => set3_other w6 wr.heap.size (.int .i64 (room : Int)) (.slice lA' N lc') (.slice gA' (doesP room L Q ki wi ni).2.length gc') p hp
  exact ⟨lA', gA', lc', gc', _, rfl, Lib.hid ⟨Dq', rfl, h1, h2, h3, h4⟩, k, ⟨(ks _ (by show bx ≠ _; omega)).trans k.1, (ks _ (by show bx ≠ _; omega)).trans k.2.1, (ks _ (by show bx ≠ _; omega)).trans k.2.2.1, (ks _ (by omega)).trans k.2.2.2.1, (ks _ (by show da.block ≠ _; omega)).trans k.2.2.2.2.1, (ks _ (by show da.block ≠ _; omega)).trans k.2.2.2.2.2⟩, ⟨(kn.cell 0).trans rfl, (kn.cell 1).trans rfl, (kn.cell 2).trans rfl⟩, kn.frozen 0, kn.frozen 1, kn.frozen 2⟩
theorem PoI.after (h : PoI w wr g d s bx room N Dq L Q M lA gA lc gc) (hr : DidR w wr wr.drew w6 g d s bx room N Dq lA' gA' lc' gc' M' L' Q') :
    PoC w g d s bx room N M lA gA lc gc L' Q' (.pointer (some ⟨w6.heap.size, 0, none⟩)) (.bool true) (w6.alloc (.cells #[.int .i64 (room : Int), .slice lA' N lc', .slice gA' M' gc'] 28)) := by
  obtain ⟨Dq', h0, h1, h2, h3, h4⟩ := hr
  have hb : Below wr.heap.size wr wr.drew := (Below.refl _ _).drew
  have hz := h3.size
  have h5 := h.box.lt
  have h6 := h.bel.size
  have hz1 : wr.drew.heap.size = wr.heap.size := rfl
  have f0 := (Fr.of_below hb).mono (S := fun i => wr.heap.size ≤ i ∨ PlD d s Dq i) (fun i _ h => .inl h)
  have f1 := f0.trans (h3.mono (S := fun i => wr.heap.size ≤ i ∨ PlD d s Dq i) (fun i _ h => .inr h)) (fun i _ h => h)
  have hb6 : Below w.heap.size w w6 := h.bel.trans (f1.below h6 (fun i hi => by rcases hi with hi | hi; omega; exact h.lo i hi))
  refine ⟨w6.heap.size, Dq', lA', gA', lc', gc', M', rfl, rfl, by omega, h0, Blk.new _ _ _, h1.below ((Below.refl _ _).alloc (Nat.le_refl _) _) (Nat.le_refl _), (h2.alloc _).mono (fun i hi _ => ⟨hi.1, fun e => hi.2 (.inl e)⟩), ((h3.blk (h.box.below hb h5) h.nb)).alloc _, fun e => ?_, fun i hi => ?_, hb6.alloc hb6.size _⟩
  · rcases h4 _ e with e | e
    · exact h.nb e
    · omega
  · rcases h4 _ hi with e | e
    · exact h.lo _ e
    · omega
theorem PoI.before (h : PoI w wr g d s bx room N Dq L Q M lA gA lc gc) (hr : DidR w wr (wr.alloc (.cells #[.int .i64 0, .slice none 0 0, .slice none 0 0] 28)).drew w6 g d s bx room N Dq lA' gA' lc' gc' M' L' Q') :
    PoC w g d s bx room N M lA gA lc gc L' Q' (.pointer (some ⟨wr.heap.size, 0, none⟩)) (.bool true) (((w6.setCell ⟨wr.heap.size, 0, none⟩ (.int .i64 (room : Int))).setCell ⟨wr.heap.size, 1, none⟩ (.slice lA' N lc')).setCell ⟨wr.heap.size, 2, none⟩ (.slice gA' M' gc')) := by
  obtain ⟨Dq', h0, h1, h2, h3, h4⟩ := hr
  have hb : Below wr.heap.size wr (wr.alloc (.cells #[.int .i64 0, .slice none 0 0, .slice none 0 0] 28)).drew := ((Below.refl _ _).alloc (Nat.le_refl _) _).drew
  have hz := h3.size
  have h5 := h.box.lt
  have h6 := h.bel.size
  have hz1 : (wr.alloc (.cells #[.int .i64 0, .slice none 0 0, .slice none 0 0] 28)).drew.heap.size = wr.heap.size + 1 := by show (wr.alloc (.cells #[.int .i64 0, .slice none 0 0, .slice none 0 0] 28)).heap.size = _; simp
  have f0 := (Fr.of_below hb).mono (S := fun i => wr.heap.size ≤ i ∨ PlD d s Dq i) (fun i _ h => .inl h)
  have f1 := f0.trans (h3.mono (S := fun i => wr.heap.size ≤ i ∨ PlD d s Dq i) (fun i _ h => .inr h)) (fun i _ h => h)
  have hb6 : Below w.heap.size w w6 := h.bel.trans (f1.below h6 (fun i hi => by rcases hi with hi | hi; omega; exact h.lo i hi))
  have kn : Blk w6 wr.heap.size 28 #[.int .i64 0, .slice none 0 0, .slice none 0 0] := h3.blk (Blk.new wr _ _).drew (fun e => by have := h.pl.bound _ e; omega)
  have hset := (Fr.refl (fun k => k = wr.heap.size) w6).set3 (g := wr.heap.size) (.inl rfl) (.int .i64 (room : Int)) (.slice lA' N lc') (.slice gA' M' gc')
  have hnn : ¬ PlD d s Dq' wr.heap.size := fun e => by
    rcases h4 _ e with e | e
    · have := h.pl.bound _ e; omega
    · omega
  refine ⟨wr.heap.size, Dq', lA', gA', lc', gc', M', rfl, rfl, by omega, h0, kn.set3 _ _ _, h1.fr hset (fun i hi => by subst hi; exact hnn), (h2.fr hset (fun i hi _ e => hi.2 (.inr (by omega)))).mono (fun i hi _ => ⟨hi.1, fun e => hi.2 (.inl e)⟩), hset.blk (h3.blk (h.box.below hb h5) h.nb) (by omega), fun e => ?_, fun i hi => ?_, hb6.trans (hset.below hb6.size (fun i hi => by omega))⟩
  · rcases h4 _ e with e | e
    · exact h.nb e
    · omega
  · rcases h4 _ hi with e | e
    · exact h.lo _ e
    · omega
/-- The box is stored into. -/
theorem PoI.next (h5 : Q'.length = M') (h1 : Pl W g d s room Dq' L' Q') (h2 : DocP W (fun k => ¬ PlD d s Dq' k ∧ ¬ (k = bx)) lA' lc' gA' gc' L' Q') (h3 : Blk W bx 28 (DocV room lA N lc gA M gc)) (h4 : ¬ PlD d s Dq' bx) (hl : ∀ i, PlD d s Dq' i → w.heap.size ≤ i) (hbl : w.heap.size ≤ bx) (hb : Below w.heap.size w W) (hN : L'.length = N) :
    PoI w (((W.setCell ⟨bx, 0, none⟩ (.int .i64 (room : Int))).setCell ⟨bx, 1, none⟩ (.slice lA' N lc')).setCell ⟨bx, 2, none⟩ (.slice gA' M' gc')) g d s bx room N Dq' L' Q' M' lA' gA' lc' gc' := by
  have hset := (Fr.refl (fun k => k = bx) W).set3 (g := bx) (.inl rfl) (.int .i64 (room : Int)) (.slice lA' N lc') (.slice gA' M' gc')
  exact ⟨h1.fr hset (fun i hi => by subst hi; exact h4), h3.set3 _ _ _, h2.fr hset (fun i hi _ e => hi.2 e), h4, hl, hbl, hN, h5, hb.trans (hset.below hb.size (fun i hi => by omega))⟩
end
end Go.Proofs.Ytipflplilkecjaa
