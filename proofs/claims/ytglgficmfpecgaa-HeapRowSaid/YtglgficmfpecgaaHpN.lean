
/-
  A heap of timers in memory, and what a call of it leaves as it was. No function of the landed code is spoken of here.
-/
import Derived.Test.YtglgficmfpecgaaHpM
set_option linter.unusedVariables false
set_option linter.unusedSimpArgs false
namespace Go.Proofs.Ytglgficmfpecgaa
open Go.RowKit Plain

theorem heapT_ne : (56 : TypeId) ≠ 59 := by decide
/-- A heap in block h: its row of timers v, its map in block m, its steps. -/
structure HpX (w : World) (B h m : Nat) (v : Value) (ts : List Tm) (f : Int → Option Nat) (n : Nat) : Prop where
  box : Blk w h 56 #[v, .map (some m), .int .i64 (IntKind.i64.wrap (n : Int))]
  row : w.ownsRow B 59 2 v ts.length (flat ts)
  mp : IsMI w m f
  hb : B ≤ h
  mb : B ≤ m
/-- What was below B is as it was, and of what is above all blocks but those of heaps. -/
structure Fx (B : Nat) (w w' : World) : Prop where
  bel : Below B w w'
  keep : ∀ k cs t, Blk w k t cs → t ≠ 56 → t ≠ 59 → Blk w' k t cs
section
variable {w w' a b c : World} {B h m n : Nat} {v : Value} {ts : List Tm} {f : Int → Option Nat}
theorem Fx.refl (B : Nat) (w : World) : Fx B w w := ⟨Below.refl _ _, fun _ _ _ h _ _ => h⟩
theorem Fx.trans (h : Fx B a b) (k : Fx B b c) : Fx B a c := ⟨h.bel.trans k.bel, fun i cs t hb h1 h2 => k.keep i cs t (h.keep i cs t hb h1 h2) h1 h2⟩
theorem Fx.drew (h : Fx B a w) : Fx B a w.drew := ⟨h.bel.drew, h.keep⟩
theorem Fx.drewN (h : Fx B a w) (n : Nat) : Fx B a (w.drewN n) := ⟨below_drews h.bel n, h.keep⟩
theorem Fx.alloc (h : Fx B a w) (hB : B ≤ a.heap.size) (o : Obj) : Fx B a (w.alloc o) := ⟨h.bel.alloc (Nat.le_trans hB h.bel.size) o, fun i cs t hb h1 h2 => (h.keep i cs t hb h1 h2).alloc o⟩
theorem Fx.of_below {B' : Nat} (h : Below B' w w') (hB : B ≤ B') (hs : w.heap.size ≤ B') : Fx B w w' := ⟨h.mono hB, fun i cs t hb _ _ => hb.below h (by have := hb.lt; omega)⟩
theorem Fx.blk {k : Nat} {t : TypeId} {cs : Array Value} (h : Fx B a b) (hb : Blk a k t cs) (h1 : t ≠ 56) (h2 : t ≠ 59) : Blk b k t cs := h.keep k cs t hb h1 h2
theorem Fx.own {base : Nat} {e : TypeId} {size n : Nat} {v : Value} {xs : List Value} (h : Fx B a b) (ho : a.ownsRow base e size v n xs) (h1 : e ≠ 56) (h2 : e ≠ 59) : b.ownsRow base e size v n xs := by
  refine ⟨ho.1, ?_⟩
  rcases ho.2 with h0 | ⟨g, cap, cur, rfl, hb, hc, hr⟩
  · exact .inl h0
  · exact .inr ⟨g, cap, cur, rfl, hb, h.keep g cur e hc h1 h2, hr⟩
theorem HpX.hm (H : HpX w B h m v ts f n) : h ≠ m := by
  rintro rfl
  exact H.mp.not_cells H.box
theorem HpX.own_ne (H : HpX w B h m v ts f n) {j : Nat} (hj : v.ownBlock = some j) : j ≠ h ∧ j ≠ m ∧ B ≤ j ∧ j < w.heap.size := by
  rcases H.row.2 with ⟨rfl, _⟩ | ⟨g, cap, cur, rfl, hb, hc, _⟩
  · simp [Value.ownBlock] at hj
  · have : g = j := by simpa [Value.ownBlock] using hj
    subst this
    refine ⟨Blk.ne_ (t := 59) (cs := cur) hc H.box (Ne.symm heapT_ne), ?_, hb, (H.row.lt g rfl).2⟩
    rintro rfl
    exact H.mp.not_cells hc
theorem HpX.lt (H : HpX w B h m v ts f n) : h < w.heap.size ∧ m < w.heap.size := ⟨H.box.lt, H.mp.lt⟩
theorem HpX.fr {S : Nat → Prop} (H : HpX w B h m v ts f n) (hf : Fr S w w') (h1 : ¬ S h) (h2 : ¬ S m) (h3 : ∀ j, v.ownBlock = some j → ¬ S j) : HpX w' B h m v ts f n :=
  ⟨hf.blk H.box h1, hf.own H.row h3, H.mp.fr hf h2, H.hb, H.mb⟩
theorem HpX.below (H : HpX w B h m v ts f n) {B' : Nat} (hf : Below B' w w') (hB : w.heap.size ≤ B') : HpX w' B h m v ts f n :=
  H.fr (Fr.of_below hf) (by have := H.lt; omega) (by have := H.lt; omega) (fun j hj => by have := H.own_ne hj; omega)
theorem HpX.drewN (H : HpX w B h m v ts f n) (k : Nat) : HpX (w.drewN k) B h m v ts f n := ⟨H.box.drewN k, H.row, H.mp, H.hb, H.mb⟩
theorem HpX.alloc (H : HpX w B h m v ts f n) (o : Obj) : HpX (w.alloc o) B h m v ts f n := H.below ((Below.refl w.heap.size w).alloc (Nat.le_refl _) o) (Nat.le_refl _)
/-- What a call may turn. -/
theorem HpX.fx (H : HpX w B h m v ts f n) (hB : B ≤ w.heap.size) (hf : Fr (fun j => j = h ∨ j = m ∨ v.ownBlock = some j) w w') : Fx B w w' := by
  refine ⟨hf.below hB (fun i hi => ?_), fun k cs t hb h1 h2 => hf.blk hb ?_⟩
  · rcases hi with rfl | rfl | hi
    · exact H.hb
    · exact H.mb
    · exact (H.own_ne hi).2.2.1
  · rintro (rfl | rfl | hi)
    · exact Blk.ne_ hb H.box h1 rfl
    · exact H.mp.not_cells hb
    · rcases H.row.2 with ⟨rfl, _⟩ | ⟨g, cap, cur, rfl, _, hc, _⟩
      · simp [Value.ownBlock] at hi
      · have : g = k := by simpa [Value.ownBlock] using hi
        subst this
        exact Blk.ne_ (t' := 59) (cs' := cur) hb hc h2 rfl
/-- Where the timers stand. -/
theorem HpX.slice (H : HpX w B h m v ts f n) : ∃ A c, v = .slice A ts.length c ∧ ts.length ≤ c ∧ (A = none → ts.length = 0 ∧ c = 0) ∧ (∀ ad, A = some ad → ∃ g, ad = ⟨g, 0, none⟩ ∧ v.ownBlock = some g ∧ ∃ cur : List Value, Blk w g 59 cur.toArray ∧ cur.length = c * 2 ∧ cur.take (ts.length * 2) = flat ts) := by
  have hl := H.row
  rcases H.row.2 with ⟨rfl, h0⟩ | ⟨g, cap, cur, rfl, _, hc, h1, _, h2, h3⟩
  · refine ⟨none, 0, by rw [h0], by omega, fun _ => ⟨h0, rfl⟩, fun ad h => by cases h⟩
  · exact ⟨_, cap, rfl, h1, fun h => (by cases h), fun ad h => by
      injection h with h
      subst h
      exact ⟨g, rfl, rfl, cur.toList, by simpa [Blk] using hc, by simpa using h2, h3⟩⟩
/-- A timer's cells. -/
theorem HpX.cells (H : HpX w B h m v ts f n) {i : Nat} (hi : i < ts.length) : ∃ g c, v = .slice (some ⟨g, 0, none⟩) ts.length c ∧ ts.length ≤ c ∧ g < w.heap.size ∧ g ≠ h ∧ g ≠ m ∧
    w.cell? ⟨g, i * 2, none⟩ = some (.int .i64 (gt ts i).1) ∧ w.cell? ⟨g, i * 2 + 1, none⟩ = some (.int .i64 (gt ts i).2) ∧ (∀ j, w.frozen? ⟨g, j, none⟩ = false) ∧ v.ownBlock = some g := by
  obtain ⟨A, c, e, hc, hn, hs⟩ := H.slice
  rcases A with _ | ad
  · have := (hn rfl).1
    omega
  · obtain ⟨g, rfl, ho, cur, hb, hl, ht⟩ := hs _ rfl
    have hne := H.own_ne ho
    have h1 := flat_at ts i _ (gt_some hi)
    rw [← ht] at h1
    rw [List.getElem?_take_of_lt (by omega), List.getElem?_take_of_lt (by omega)] at h1
    refine ⟨g, c, e, hc, hne.2.2.2, hne.1, hne.2.1, ?_, ?_, fun j => hb.frozen j, ho⟩
    · rw [hb.cell]; simpa using h1.1
    · rw [hb.cell]; simpa using h1.2
theorem HpX.box_cells (H : HpX w B h m v ts f n) : w.cell? ⟨h, 0, none⟩ = some v ∧ w.cell? ⟨h, 1, none⟩ = some (.map (some m)) ∧ w.cell? ⟨h, 2, none⟩ = some (.int .i64 (IntKind.i64.wrap (n : Int))) ∧ ∀ j, w.frozen? ⟨h, j, none⟩ = false :=
  ⟨H.box.cell 0, H.box.cell 1, H.box.cell 2, fun j => H.box.frozen j⟩
/-- A timer's two cells are written. -/
theorem own_put {w : World} {B g c : Nat} {ts : List Tm} (H : w.ownsRow B 59 2 (.slice (some ⟨g, 0, none⟩) ts.length c) ts.length (flat ts)) {i : Nat} (hi : i < ts.length) (t : Tm) :
    ((w.setCell ⟨g, i * 2, none⟩ (.int .i64 t.1)).setCell ⟨g, i * 2 + 1, none⟩ (.int .i64 t.2)).ownsRow B 59 2 (.slice (some ⟨g, 0, none⟩) (ts.set i t).length c) (ts.set i t).length (flat (ts.set i t)) := by
  rcases H.2 with ⟨h0, _⟩ | ⟨g', cap, cur, h0, hb, hc, h1, h2, h3, h4⟩
  · cases h0
  · injection h0 with h5 h6 h7
    injection h5 with h5
    injection h5 with h5
    subst h5 h7
    have b1 : Blk w g 59 cur := hc
    have b2 := (b1.set_ (i * 2) (.int .i64 t.1)).set_ (i * 2 + 1) (.int .i64 t.2)
    refine ⟨flat_length _, .inr ⟨g, c, _, rfl, hb, b2, by simpa using h1, h2, by simpa using h3, ?_⟩⟩
    rw [List.length_set, flat_set, ← h4]
    simp [List.take_set]
end
end Go.Proofs.Ytglgficmfpecgaa
