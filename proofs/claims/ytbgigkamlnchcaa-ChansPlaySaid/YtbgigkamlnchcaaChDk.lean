
/-
  The document's Select.
-/
import Derived.Test.YtbgigkamlnchcaaChDj
set_option linter.unusedVariables false
set_option linter.unusedSimpArgs false
namespace Go.Proofs.Ytbgigkamlnchcaa
open Go.RowKit Plain

theorem waitAll_parts (t : Int) : ∀ (l : List Nat) (s : Ck), (waitAll t l s).bf = s.bf ∧ (waitAll t l s).sq = s.sq ∧ (waitAll t l s).rq.length = s.rq.length
  | [], s => ⟨rfl, rfl, rfl⟩
  | m :: l, s => by
    have := waitAll_parts t l { s with rq := s.rq.set m (gl s.rq m ++ [t]) }
    simpa [waitAll] using this
theorem waitAll_len (t : Int) : ∀ (l : List Nat) (s : Ck) (m : Nat), (gl (waitAll t l s).rq m).length ≤ (gl s.rq m).length + l.length
  | [], s, m => by simp [waitAll]
  | k :: l, s, m => by
    have h1 := waitAll_len t l { s with rq := s.rq.set k (gl s.rq k ++ [t]) } m
    have h2 : (gl (s.rq.set k (gl s.rq k ++ [t])) m).length ≤ (gl s.rq m).length + 1 := by
      by_cases hk : k = m
      · subst hk
        rcases Nat.lt_or_ge k s.rq.length with h | h
        · rw [gl_set h]
          simp
        · rw [List.set_eq_of_length_le h]
          omega
      · rw [gl_set_ne hk]
        omega
    simp only [waitAll, List.length_cons]
    have h1' : (gl (waitAll t l { s with rq := s.rq.set k (gl s.rq k ++ [t]) }).rq m).length ≤ (gl (s.rq.set k (gl s.rq k ++ [t])) m).length + l.length := h1
    omega
/-- Behind the call of Recv. -/
def SelC (w W0 : World) (n : Nat) (s' : Ck) (v u : Int) (s13 s14 s15 : Value) (W : World) : Prop :=
  ∃ (nb : Nat) (z' : ChZ), s13 = .pointer (some ⟨nb, 0, none⟩) ∧ s14 = .int .i64 v ∧ s15 = .int .i64 u ∧ Blk W nb 28 (mkD z' n) ∧ Below W0.heap.size W0 W ∧ DocC W (fun k => w.heap.size + 1 < k) z' n s'
theorem setD_other (W : World) (g : Nat) (a0 a1 a2 a3 a4 a5 a6 a7 a8 a9 : Value) (p : Addr) (hp : p.block ≠ g) : ((((((((((W.setCell ⟨g, 0, none⟩ a0).setCell ⟨g, 1, none⟩ a1).setCell ⟨g, 2, none⟩ a2).setCell ⟨g, 3, none⟩ a3).setCell ⟨g, 4, none⟩ a4).setCell ⟨g, 5, none⟩ a5).setCell ⟨g, 6, none⟩ a6).setCell ⟨g, 7, none⟩ a7).setCell ⟨g, 8, none⟩ a8).setCell ⟨g, 9, none⟩ a9).cell? p = W.cell? p := by
  have st : ∀ (X : World) (i : Nat) (v : Value), X.cell? p = W.cell? p → (X.setCell ⟨g, i, none⟩ v).cell? p = W.cell? p := fun X i v h => by
    rw [← h]
    exact World.cell?_setCell_other _ _ _ _ (fun e => hp (by rw [← e]))
  exact st _ 9 _ (st _ 8 _ (st _ 7 _ (st _ 6 _ (st _ 5 _ (st _ 4 _ (st _ 3 _ (st _ 2 _ (st _ 1 _ (st _ 0 _ rfl)))))))))
theorem froD {W : World} {g : Nat} {T : TypeId} {cs : Array Value} (h : Blk W g T cs) : W.frozen? ⟨g, 0, none⟩ = false ∧ W.frozen? ⟨g, 1, none⟩ = false ∧ W.frozen? ⟨g, 2, none⟩ = false ∧ W.frozen? ⟨g, 3, none⟩ = false ∧ W.frozen? ⟨g, 4, none⟩ = false ∧ W.frozen? ⟨g, 5, none⟩ = false ∧ W.frozen? ⟨g, 6, none⟩ = false ∧ W.frozen? ⟨g, 7, none⟩ = false ∧ W.frozen? ⟨g, 8, none⟩ = false ∧ W.frozen? ⟨g, 9, none⟩ = false :=
  ⟨h.frozen 0, h.frozen 1, h.frozen 2, h.frozen 3, h.frozen 4, h.frozen 5, h.frozen 6, h.frozen 7, h.frozen 8, h.frozen 9⟩
section
variable {w W0 wr : World} {n m i : Nat} {s s' : Ck} {z : ChZ} {t v u : Int} {d : Bool} {ad : Addr}
theorem sel_did1 (hc : Calls Try.prog 31 #[.agg (mkD z n), .int .i64 (m : Int), .int .i64 t] wr.drew fun e w' => ∃ z' : ChZ, e = .returned (.tuple #[.agg (mkD z' n), .int .i64 v, .int .i64 u, .bool d]) ∧ DocC w' (fun k => wr.drew.heap.size ≤ k) z' n s' ∧ Below wr.drew.heap.size wr.drew w')
    (hb : Below W0.heap.size W0 wr) (hz : w.heap.size + 1 < W0.heap.size) (hS : wr.cell? ⟨w.heap.size, 0, none⟩ = some (.int .i64 0) ∧ wr.cell? ⟨w.heap.size, 1, none⟩ = some (NilS) ∧ wr.cell? ⟨w.heap.size, 2, none⟩ = some (NilS) ∧ wr.cell? ⟨w.heap.size, 3, none⟩ = some (NilS) ∧ wr.cell? ⟨w.heap.size, 4, none⟩ = some (.slice z.A1 n z.d1) ∧ wr.cell? ⟨w.heap.size, 5, none⟩ = some (NilS) ∧ wr.cell? ⟨w.heap.size, 6, none⟩ = some (NilS) ∧ wr.cell? ⟨w.heap.size, 7, none⟩ = some (NilS) ∧ wr.cell? ⟨w.heap.size, 8, none⟩ = some (.slice z.A2 n z.d2) ∧ wr.cell? ⟨w.heap.size, 9, none⟩ = some (.slice z.A3 n z.d3) ∧ wr.cell? (ad.add i) = some (.int .i64 (m : Int))) (had : ad.block < wr.heap.size) :
    Calls Try.prog 31 #[.agg (mkD z n), .int .i64 (m : Int), .int .i64 t] wr.drew fun e w6 => ∃ z', e = .returned (.tuple #[.agg (mkD z' n), .int .i64 v, .int .i64 u, .bool d]) ∧ Hid (SelC w W0 n s' v u (.pointer (some ⟨w6.heap.size, 0, none⟩)) (.int .i64 v) (.int .i64 u) (w6.alloc (.cells (mkD z' n) 28))) ∧ (w6.cell? ⟨w.heap.size, 0, none⟩ = some (.int .i64 0) ∧ w6.cell? ⟨w.heap.size, 1, none⟩ = some (NilS) ∧ w6.cell? ⟨w.heap.size, 2, none⟩ = some (NilS) ∧ w6.cell? ⟨w.heap.size, 3, none⟩ = some (NilS) ∧ w6.cell? ⟨w.heap.size, 4, none⟩ = some (.slice z.A1 n z.d1) ∧ w6.cell? ⟨w.heap.size, 5, none⟩ = some (NilS) ∧ w6.cell? ⟨w.heap.size, 6, none⟩ = some (NilS) ∧ w6.cell? ⟨w.heap.size, 7, none⟩ = some (NilS) ∧ w6.cell? ⟨w.heap.size, 8, none⟩ = some (.slice z.A2 n z.d2) ∧ w6.cell? ⟨w.heap.size, 9, none⟩ = some (.slice z.A3 n z.d3) ∧ w6.cell? (ad.add i) = some (.int .i64 (m : Int))) ∧ ((w6.alloc (.cells (mkD z' n) 28)).cell? ⟨w.heap.size, 0, none⟩ = some (.int .i64 0) ∧ (w6.alloc (.cells (mkD z' n) 28)).cell? ⟨w.heap.size, 1, none⟩ = some (NilS) ∧ (w6.alloc (.cells (mkD z' n) 28)).cell? ⟨w.heap.size, 2, none⟩ = some (NilS) ∧ (w6.alloc (.cells (mkD z' n) 28)).cell? ⟨w.heap.size, 3, none⟩ = some (NilS) ∧ (w6.alloc (.cells (mkD z' n) 28)).cell? ⟨w.heap.size, 4, none⟩ = some (.slice z.A1 n z.d1) ∧ (w6.alloc (.cells (mkD z' n) 28)).cell? ⟨w.heap.size, 5, none⟩ = some (NilS) ∧ (w6.alloc (.cells (mkD z' n) 28)).cell? ⟨w.heap.size, 6, none⟩ = some (NilS) ∧ (w6.alloc (.cells (mkD z' n) 28)).cell? ⟨w.heap.size, 7, none⟩ = some (NilS) ∧ (w6.alloc (.cells (mkD z' n) 28)).cell? ⟨w.heap.size, 8, none⟩ = some (.slice z.A2 n z.d2) ∧ (w6.alloc (.cells (mkD z' n) 28)).cell? ⟨w.heap.size, 9, none⟩ = some (.slice z.A3 n z.d3) ∧ (w6.alloc (.cells (mkD z' n) 28)).cell? (ad.add i) = some (.int .i64 (m : Int))) := by
  refine hc.mono ?_
  rintro e w6 ⟨z', rfl, hd, h6⟩
  have hzb := hb.size
  have hz6 := h6.size
  have hwz : wr.drew.heap.size = wr.heap.size := rfl
  have k : ∀ a : Addr, a.block < wr.heap.size → w6.cell? a = wr.cell? a := fun a ha => h6.cell ha
  have ka : ∀ (a : Addr) (o : Obj), a.block < wr.heap.size → (w6.alloc o).cell? a = wr.cell? a := fun a o ha => (World.cell?_alloc_lt w6 o a (by omega)).trans (k a ha)
  have hb6 : Below W0.heap.size W0 w6 := hb.drew.trans (h6.mono (by omega))
  refine ⟨z', rfl, Lib.hid ⟨w6.heap.size, z', rfl, rfl, rfl, Blk.new w6 _ _, hb6.alloc hb6.size _, (hd.below ((Below.refl _ w6).alloc (Nat.le_refl _) _) (Nat.le_refl _)).mono (fun k hk _ => by omega)⟩, ⟨(k ⟨w.heap.size, 0, none⟩ (by show w.heap.size < _; omega)).trans hS.1, (k ⟨w.heap.size, 1, none⟩ (by show w.heap.size < _; omega)).trans hS.2.1, (k ⟨w.heap.size, 2, none⟩ (by show w.heap.size < _; omega)).trans hS.2.2.1, (k ⟨w.heap.size, 3, none⟩ (by show w.heap.size < _; omega)).trans hS.2.2.2.1, (k ⟨w.heap.size, 4, none⟩ (by show w.heap.size < _; omega)).trans hS.2.2.2.2.1, (k ⟨w.heap.size, 5, none⟩ (by show w.heap.size < _; omega)).trans hS.2.2.2.2.2.1, (k ⟨w.heap.size, 6, none⟩ (by show w.heap.size < _; omega)).trans hS.2.2.2.2.2.2.1, (k ⟨w.heap.size, 7, none⟩ (by show w.heap.size < _; omega)).trans hS.2.2.2.2.2.2.2.1, (k ⟨w.heap.size, 8, none⟩ (by show w.heap.size < _; omega)).trans hS.2.2.2.2.2.2.2.2.1, (k ⟨w.heap.size, 9, none⟩ (by show w.heap.size < _; omega)).trans hS.2.2.2.2.2.2.2.2.2.1, (k (ad.add i) (by rw [block_of_add]; exact had)).trans hS.2.2.2.2.2.2.2.2.2.2⟩, (ka ⟨w.heap.size, 0, none⟩ _ (by show w.heap.size < _; omega)).trans hS.1, (ka ⟨w.heap.size, 1, none⟩ _ (by show w.heap.size < _; omega)).trans hS.2.1, (ka ⟨w.heap.size, 2, none⟩ _ (by show w.heap.size < _; omega)).trans hS.2.2.1, (ka ⟨w.heap.size, 3, none⟩ _ (by show w.heap.size < _; omega)).trans hS.2.2.2.1, (ka ⟨w.heap.size, 4, none⟩ _ (by show w.heap.size < _; omega)).trans hS.2.2.2.2.1, (ka ⟨w.heap.size, 5, none⟩ _ (by show w.heap.size < _; omega)).trans hS.2.2.2.2.2.1, (ka ⟨w.heap.size, 6, none⟩ _ (by show w.heap.size < _; omega)).trans hS.2.2.2.2.2.2.1, (ka ⟨w.heap.size, 7, none⟩ _ (by show w.heap.size < _; omega)).trans hS.2.2.2.2.2.2.2.1, (ka ⟨w.heap.size, 8, none⟩ _ (by show w.heap.size < _; omega)).trans hS.2.2.2.2.2.2.2.2.1, (ka ⟨w.heap.size, 9, none⟩ _ (by show w.heap.size < _; omega)).trans hS.2.2.2.2.2.2.2.2.2.1, (ka (ad.add i) _ (by rw [block_of_add]; exact had)).trans hS.2.2.2.2.2.2.2.2.2.2⟩
theorem sel_did2 (hc : Calls Try.prog 31 #[.agg (mkD z n), .int .i64 (m : Int), .int .i64 t] (wr.alloc (.cells zeroC 28)).drew fun e w' => ∃ z' : ChZ, e = .returned (.tuple #[.agg (mkD z' n), .int .i64 v, .int .i64 u, .bool d]) ∧ DocC w' (fun k => (wr.alloc (.cells zeroC 28)).drew.heap.size ≤ k) z' n s' ∧ Below (wr.alloc (.cells zeroC 28)).drew.heap.size (wr.alloc (.cells zeroC 28)).drew w')
    (hb : Below W0.heap.size W0 wr) (hz : w.heap.size + 1 < W0.heap.size) (hS : wr.cell? ⟨w.heap.size, 0, none⟩ = some (.int .i64 0) ∧ wr.cell? ⟨w.heap.size, 1, none⟩ = some (NilS) ∧ wr.cell? ⟨w.heap.size, 2, none⟩ = some (NilS) ∧ wr.cell? ⟨w.heap.size, 3, none⟩ = some (NilS) ∧ wr.cell? ⟨w.heap.size, 4, none⟩ = some (.slice z.A1 n z.d1) ∧ wr.cell? ⟨w.heap.size, 5, none⟩ = some (NilS) ∧ wr.cell? ⟨w.heap.size, 6, none⟩ = some (NilS) ∧ wr.cell? ⟨w.heap.size, 7, none⟩ = some (NilS) ∧ wr.cell? ⟨w.heap.size, 8, none⟩ = some (.slice z.A2 n z.d2) ∧ wr.cell? ⟨w.heap.size, 9, none⟩ = some (.slice z.A3 n z.d3) ∧ wr.cell? (ad.add i) = some (.int .i64 (m : Int))) (had : ad.block < wr.heap.size) :
    Calls Try.prog 31 #[.agg (mkD z n), .int .i64 (m : Int), .int .i64 t] (wr.alloc (.cells zeroC 28)).drew fun e w6 => ∃ z', e = .returned (.tuple #[.agg (mkD z' n), .int .i64 v, .int .i64 u, .bool d]) ∧ Hid (SelC w W0 n s' v u (.pointer (some ⟨wr.heap.size, 0, none⟩)) (.int .i64 v) (.int .i64 u) ((((((((((w6.setCell ⟨wr.heap.size, 0, none⟩ (.int .i64 0)).setCell ⟨wr.heap.size, 1, none⟩ (NilS)).setCell ⟨wr.heap.size, 2, none⟩ (NilS)).setCell ⟨wr.heap.size, 3, none⟩ (NilS)).setCell ⟨wr.heap.size, 4, none⟩ (.slice z'.A1 n z'.d1)).setCell ⟨wr.heap.size, 5, none⟩ (NilS)).setCell ⟨wr.heap.size, 6, none⟩ (NilS)).setCell ⟨wr.heap.size, 7, none⟩ (NilS)).setCell ⟨wr.heap.size, 8, none⟩ (.slice z'.A2 n z'.d2)).setCell ⟨wr.heap.size, 9, none⟩ (.slice z'.A3 n z'.d3))) ∧ (w6.cell? ⟨w.heap.size, 0, none⟩ = some (.int .i64 0) ∧ w6.cell? ⟨w.heap.size, 1, none⟩ = some (NilS) ∧ w6.cell? ⟨w.heap.size, 2, none⟩ = some (NilS) ∧ w6.cell? ⟨w.heap.size, 3, none⟩ = some (NilS) ∧ w6.cell? ⟨w.heap.size, 4, none⟩ = some (.slice z.A1 n z.d1) ∧ w6.cell? ⟨w.heap.size, 5, none⟩ = some (NilS) ∧ w6.cell? ⟨w.heap.size, 6, none⟩ = some (NilS) ∧ w6.cell? ⟨w.heap.size, 7, none⟩ = some (NilS) ∧ w6.cell? ⟨w.heap.size, 8, none⟩ = some (.slice z.A2 n z.d2) ∧ w6.cell? ⟨w.heap.size, 9, none⟩ = some (.slice z.A3 n z.d3) ∧ w6.cell? (ad.add i) = some (.int .i64 (m : Int))) ∧ (((((((((((w6.setCell ⟨wr.heap.size, 0, none⟩ (.int .i64 0)).setCell ⟨wr.heap.size, 1, none⟩ (NilS)).setCell ⟨wr.heap.size, 2, none⟩ (NilS)).setCell ⟨wr.heap.size, 3, none⟩ (NilS)).setCell ⟨wr.heap.size, 4, none⟩ (.slice z'.A1 n z'.d1)).setCell ⟨wr.heap.size, 5, none⟩ (NilS)).setCell ⟨wr.heap.size, 6, none⟩ (NilS)).setCell ⟨wr.heap.size, 7, none⟩ (NilS)).setCell ⟨wr.heap.size, 8, none⟩ (.slice z'.A2 n z'.d2)).setCell ⟨wr.heap.size, 9, none⟩ (.slice z'.A3 n z'.d3)).cell? ⟨w.heap.size, 0, none⟩ = some (.int .i64 0) ∧ ((((((((((w6.setCell ⟨wr.heap.size, 0, none⟩ (.int .i64 0)).setCell ⟨wr.heap.size, 1, none⟩ (NilS)).setCell ⟨wr.heap.size, 2, none⟩ (NilS)).setCell ⟨wr.heap.size, 3, none⟩ (NilS)).setCell ⟨wr.heap.size, 4, none⟩ (.slice z'.A1 n z'.d1)).setCell ⟨wr.heap.size, 5, none⟩ (NilS)).setCell ⟨wr.heap.size, 6, none⟩ (NilS)).setCell ⟨wr.heap.size, 7, none⟩ (NilS)).setCell ⟨wr.heap.size, 8, none⟩ (.slice z'.A2 n z'.d2)).setCell ⟨wr.heap.size, 9, none⟩ (.slice z'.A3 n z'.d3)).cell? ⟨w.heap.size, 1, none⟩ = some (NilS) ∧ ((((((((((w6.setCell ⟨wr.heap.size, 0, none⟩ (.int .i64 0)).setCell ⟨wr.heap.size, 1, none⟩ (NilS)).setCell ⟨wr.heap.size, 2, none⟩ (NilS)).setCell ⟨wr.heap.size, 3, none⟩ (NilS)).setCell ⟨wr.heap.size, 4, none⟩ (.slice z'.A1 n z'.d1)).setCell ⟨wr.heap.size, 5, none⟩ (NilS)).setCell ⟨wr.heap.size, 6, none⟩ (NilS)).setCell ⟨wr.heap.size, 7, none⟩ (NilS)).setCell ⟨wr.heap.size, 8, none⟩ (.slice z'.A2 n z'.d2)).setCell ⟨wr.heap.size, 9, none⟩ (.slice z'.A3 n z'.d3)).cell? ⟨w.heap.size, 2, none⟩ = some (NilS) ∧ ((((((((((w6.setCell ⟨wr.heap.size, 0, none⟩ (.int .i64 0)).setCell ⟨wr.heap.size, 1, none⟩ (NilS)).setCell ⟨wr.heap.size, 2, none⟩ (NilS)).setCell ⟨wr.heap.size, 3, none⟩ (NilS)).setCell ⟨wr.heap.size, 4, none⟩ (.slice z'.A1 n z'.d1)).setCell ⟨wr.heap.size, 5, none⟩ (NilS)).setCell ⟨wr.heap.size, 6, none⟩ (NilS)).setCell ⟨wr.heap.size, 7, none⟩ (NilS)).setCell ⟨wr.heap.size, 8, none⟩ (.slice z'.A2 n z'.d2)).setCell ⟨wr.heap.size, 9, none⟩ (.slice z'.A3 n z'.d3)).cell? ⟨w.heap.size, 3, none⟩ = some (NilS) ∧ ((((((((((w6.setCell ⟨wr.heap.size, 0, none⟩ (.int .i64 0)).setCell ⟨wr.heap.size, 1, none⟩ (NilS)).setCell ⟨wr.heap.size, 2, none⟩ (NilS)).setCell ⟨wr.heap.size, 3, none⟩ (NilS)).setCell ⟨wr.heap.size, 4, none⟩ (.slice z'.A1 n z'.d1)).setCell ⟨wr.heap.size, 5, none⟩ (NilS)).setCell ⟨wr.heap.size, 6, none⟩ (NilS)).setCell ⟨wr.heap.size, 7, none⟩ (NilS)).setCell ⟨wr.heap.size, 8, none⟩ (.slice z'.A2 n z'.d2)).setCell ⟨wr.heap.size, 9, none⟩ (.slice z'.A3 n z'.d3)).cell? ⟨w.heap.size, 4, none⟩ = some (.slice z.A1 n z.d1) ∧ ((((((((((w6.setCell ⟨wr.heap.size, 0, none⟩ (.int .i64 0)).setCell ⟨wr.heap.size, 1, none⟩ (NilS)).setCell ⟨wr.heap.size, 2, none⟩ (NilS)).setCell ⟨wr.heap.size, 3, none⟩ (NilS)).setCell ⟨wr.heap.size, 4, none⟩ (.slice z'.A1 n z'.d1)).setCell ⟨wr.heap.size, 5, none⟩ (NilS)).setCell ⟨wr.heap.size, 6, none⟩ (NilS)).setCell ⟨wr.heap.size, 7, none⟩ (NilS)).setCell ⟨wr.heap.size, 8, none⟩ (.slice z'.A2 n z'.d2)).setCell ⟨wr.heap.size, 9, none⟩ (.slice z'.A3 n z'.d3)).cell? ⟨w.heap.size, 5, none⟩ = some (NilS) ∧ ((((((((((w6.setCell ⟨wr.heap.size, 0, none⟩ (.int .i64 0)).setCell ⟨wr.heap.size, 1, none⟩ (NilS)).setCell ⟨wr.heap.size, 2, none⟩ (NilS)).setCell ⟨wr.heap.size, 3, none⟩ (NilS)).setCell ⟨wr.heap.size, 4, none⟩ (.slice z'.A1 n z'.d1)).setCell ⟨wr.heap.size, 5, none⟩ (NilS)).setCell ⟨wr.heap.size, 6, none⟩ (NilS)).setCell ⟨wr.heap.size, 7, none⟩ (NilS)).setCell ⟨wr.heap.size, 8, none⟩ (.slice z'.A2 n z'.d2)).setCell ⟨wr.heap.size, 9, none⟩ (.slice z'.A3 n z'.d3)).cell? ⟨w.heap.size, 6, none⟩ = some (NilS) ∧ ((((((((((w6.setCell ⟨wr.heap.size, 0, none⟩ (.int .i64 0)).setCell ⟨wr.heap.size, 1, none⟩ (NilS)).setCell ⟨wr.heap.size, 2, none⟩ (NilS)).setCell ⟨wr.heap.size, 3, none⟩ (NilS)).setCell ⟨wr.heap.size, 4, none⟩ (.slice z'.A1 n z'.d1)).setCell ⟨wr.heap.size, 5, none⟩ (NilS)).setCell ⟨wr.heap.size, 6, none⟩ (NilS)).setCell ⟨wr.heap.size, 7, none⟩ (NilS)).setCell ⟨wr.heap.size, 8, none⟩ (.slice z'.A2 n z'.d2)).setCell ⟨wr.heap.size, 9, none⟩ (.slice z'.A3 n z'.d3)).cell? ⟨w.heap.size, 7, none⟩ = some (NilS) ∧ ((((((((((w6.setCell ⟨wr.heap.size, 0, none⟩ (.int .i64 0)).setCell ⟨wr.heap.size, 1, none⟩ (NilS)).setCell ⟨wr.heap.size, 2, none⟩ (NilS)).setCell ⟨wr.heap.size, 3, none⟩ (NilS)).setCell ⟨wr.heap.size, 4, none⟩ (.slice z'.A1 n z'.d1)).setCell ⟨wr.heap.size, 5, none⟩ (NilS)).setCell ⟨wr.heap.size, 6, none⟩ (NilS)).setCell ⟨wr.heap.size, 7, none⟩ (NilS)).setCell ⟨wr.heap.size, 8, none⟩ (.slice z'.A2 n z'.d2)).setCell ⟨wr.heap.size, 9, none⟩ (.slice z'.A3 n z'.d3)).cell? ⟨w.heap.size, 8, none⟩ = some (.slice z.A2 n z.d2) ∧ ((((((((((w6.setCell ⟨wr.heap.size, 0, none⟩ (.int .i64 0)).setCell ⟨wr.heap.size, 1, none⟩ (NilS)).setCell ⟨wr.heap.size, 2, none⟩ (NilS)).setCell ⟨wr.heap.size, 3, none⟩ (NilS)).setCell ⟨wr.heap.size, 4, none⟩ (.slice z'.A1 n z'.d1)).setCell ⟨wr.heap.size, 5, none⟩ (NilS)).setCell ⟨wr.heap.size, 6, none⟩ (NilS)).setCell ⟨wr.heap.size, 7, none⟩ (NilS)).setCell ⟨wr.heap.size, 8, none⟩ (.slice z'.A2 n z'.d2)).setCell ⟨wr.heap.size, 9, none⟩ (.slice z'.A3 n z'.d3)).cell? ⟨w.heap.size, 9, none⟩ = some (.slice z.A3 n z.d3) ∧ ((((((((((w6.setCell ⟨wr.heap.size, 0, none⟩ (.int .i64 0)).setCell ⟨wr.heap.size, 1, none⟩ (NilS)).setCell ⟨wr.heap.size, 2, none⟩ (NilS)).setCell ⟨wr.heap.size, 3, none⟩ (NilS)).setCell ⟨wr.heap.size, 4, none⟩ (.slice z'.A1 n z'.d1)).setCell ⟨wr.heap.size, 5, none⟩ (NilS)).setCell ⟨wr.heap.size, 6, none⟩ (NilS)).setCell ⟨wr.heap.size, 7, none⟩ (NilS)).setCell ⟨wr.heap.size, 8, none⟩ (.slice z'.A2 n z'.d2)).setCell ⟨wr.heap.size, 9, none⟩ (.slice z'.A3 n z'.d3)).cell? (ad.add i) = some (.int .i64 (m : Int))) ∧ Blk w6 wr.heap.size 28 zeroC := by
  refine hc.mono ?_
  rintro e w6 ⟨z', rfl, hd, h6⟩
  have hzb := hb.size
  have hz6 := h6.size
  have hwz : (wr.alloc (.cells zeroC 28)).drew.heap.size = wr.heap.size + 1 := by show (wr.alloc _).heap.size = _; simp
  have k : ∀ a : Addr, a.block < wr.heap.size → w6.cell? a = wr.cell? a := fun a ha => (h6.cell (by omega)).trans (World.cell?_alloc_lt wr _ a ha)
  have ka : ∀ a : Addr, a.block < wr.heap.size → ((((((((((w6.setCell ⟨wr.heap.size, 0, none⟩ (.int .i64 0)).setCell ⟨wr.heap.size, 1, none⟩ (NilS)).setCell ⟨wr.heap.size, 2, none⟩ (NilS)).setCell ⟨wr.heap.size, 3, none⟩ (NilS)).setCell ⟨wr.heap.size, 4, none⟩ (.slice z'.A1 n z'.d1)).setCell ⟨wr.heap.size, 5, none⟩ (NilS)).setCell ⟨wr.heap.size, 6, none⟩ (NilS)).setCell ⟨wr.heap.size, 7, none⟩ (NilS)).setCell ⟨wr.heap.size, 8, none⟩ (.slice z'.A2 n z'.d2)).setCell ⟨wr.heap.size, 9, none⟩ (.slice z'.A3 n z'.d3)).cell? a = wr.cell? a := fun a ha => (setD_other w6 wr.heap.size (.int .i64 0) (NilS) (NilS) (NilS) (.slice z'.A1 n z'.d1) (NilS) (NilS) (NilS) (.slice z'.A2 n z'.d2) (.slice z'.A3 n z'.d3) a (by omega)).trans (k a ha)
  have hbk : Blk w6 wr.heap.size 28 zeroC := (Blk.new wr 28 zeroC).drew.below h6 (by omega)
  have hb6 : Below W0.heap.size W0 w6 := ((hb.alloc hzb _).drew).trans (h6.mono (by omega))
  have hF := fr_set10 w6 wr.heap.size (.int .i64 0) (NilS) (NilS) (NilS) (.slice z'.A1 n z'.d1) (NilS) (NilS) (NilS) (.slice z'.A2 n z'.d2) (.slice z'.A3 n z'.d3)
  refine ⟨z', rfl, Lib.hid ⟨wr.heap.size, z', rfl, rfl, rfl, hbk.set10 _ _ _ _ _ _ _ _ _ _, hb6.trans (hF.below hb6.size (fun i hi => by omega)), (hd.fr hF (fun i hi _ e => by omega)).mono (fun k hk _ => by omega)⟩, ⟨(k ⟨w.heap.size, 0, none⟩ (by show w.heap.size < _; omega)).trans hS.1, (k ⟨w.heap.size, 1, none⟩ (by show w.heap.size < _; omega)).trans hS.2.1, (k ⟨w.heap.size, 2, none⟩ (by show w.heap.size < _; omega)).trans hS.2.2.1, (k ⟨w.heap.size, 3, none⟩ (by show w.heap.size < _; omega)).trans hS.2.2.2.1, (k ⟨w.heap.size, 4, none⟩ (by show w.heap.size < _; omega)).trans hS.2.2.2.2.1, (k ⟨w.heap.size, 5, none⟩ (by show w.heap.size < _; omega)).trans hS.2.2.2.2.2.1, (k ⟨w.heap.size, 6, none⟩ (by show w.heap.size < _; omega)).trans hS.2.2.2.2.2.2.1, (k ⟨w.heap.size, 7, none⟩ (by show w.heap.size < _; omega)).trans hS.2.2.2.2.2.2.2.1, (k ⟨w.heap.size, 8, none⟩ (by show w.heap.size < _; omega)).trans hS.2.2.2.2.2.2.2.2.1, (k ⟨w.heap.size, 9, none⟩ (by show w.heap.size < _; omega)).trans hS.2.2.2.2.2.2.2.2.2.1, (k (ad.add i) (by rw [block_of_add]; exact had)).trans hS.2.2.2.2.2.2.2.2.2.2⟩, ⟨(ka ⟨w.heap.size, 0, none⟩ (by show w.heap.size < _; omega)).trans hS.1, (ka ⟨w.heap.size, 1, none⟩ (by show w.heap.size < _; omega)).trans hS.2.1, (ka ⟨w.heap.size, 2, none⟩ (by show w.heap.size < _; omega)).trans hS.2.2.1, (ka ⟨w.heap.size, 3, none⟩ (by show w.heap.size < _; omega)).trans hS.2.2.2.1, (ka ⟨w.heap.size, 4, none⟩ (by show w.heap.size < _; omega)).trans hS.2.2.2.2.1, (ka ⟨w.heap.size, 5, none⟩ (by show w.heap.size < _; omega)).trans hS.2.2.2.2.2.1, (ka ⟨w.heap.size, 6, none⟩ (by show w.heap.size < _; omega)).trans hS.2.2.2.2.2.2.1, (ka ⟨w.heap.size, 7, none⟩ (by show w.heap.size < _; omega)).trans hS.2.2.2.2.2.2.2.1, (ka ⟨w.heap.size, 8, none⟩ (by show w.heap.size < _; omega)).trans hS.2.2.2.2.2.2.2.2.1, (ka ⟨w.heap.size, 9, none⟩ (by show w.heap.size < _; omega)).trans hS.2.2.2.2.2.2.2.2.2.1, (ka (ad.add i) (by rw [block_of_add]; exact had)).trans hS.2.2.2.2.2.2.2.2.2.2⟩, hbk⟩
end
set_option maxRecDepth 100000 in
set_option maxHeartbeats 8000000 in
theorem refSelect_any (w : World) (E : Nat → Prop) (z : ChZ) (n : Nat) (s : Ck) (h : DocC w E z n s) {K : Nat} (O : CkOk K n s) (hK : K ≤ 40000) (hn : n ≤ 1000) (D : Nat → Prop) (A : Option Addr) (k c : Nat) (L : List Nat) (hr : RN w D A c (natI L)) (hkL : L.length = k) (hk1 : k ≤ 1000) (hin : ∀ m ∈ L, m < n) (t : Int) :
    Calls Try.prog 32 #[.agg (mkD z n), .slice A k c, .int .i64 t] w fun e w' => ∃ z' : ChZ, e = .returned (.tuple #[.agg (mkD z' n), .int .i64 (selectV s L t).2.1, .int .i64 (selectV s L t).2.2.1, .int .i64 (selectV s L t).2.2.2.1, .bool (selectV s L t).2.2.2.2]) ∧ DocC w' (fun k => w.heap.size ≤ k) z' n (selectV s L t).1 ∧ Below w.heap.size w w' := by
  obtain ⟨W0, hW0⟩ : ∃ W, W = (w.alloc (.cells (mkD z n) 28)).alloc (.cells zeroC 28) := ⟨_, rfl⟩
  have k0 : Blk W0 w.heap.size 28 (mkD z n) := by rw [hW0]; exact (Blk.new w _ _).alloc _
  have r0 : Blk W0 (w.heap.size + 1) 28 zeroC := by rw [hW0]; simpa using Blk.new (w.alloc (.cells (mkD z n) 28)) 28 zeroC
  have l0 : Below w.heap.size w W0 := by rw [hW0]; exact ((Below.refl _ w).alloc (Nat.le_refl _) _).alloc (by simp) _
  have z0 : W0.heap.size = w.heap.size + 1 + 1 := by rw [hW0]; simp
  have hd0 := h.below l0 (Nat.le_refl _)
  have co := fun (W : World) (hb : Below W0.heap.size W0 W) => own_any W E z n s (hd0.below hb (Nat.le_refl _)) (by omega) (fun i => by have := O.row i; omega) (fun i => by have := O.row i; omega) (fun i => by have := O.row i; omega)
  have crd := fun (W : World) (hb : Below W0.heap.size W0 W) (m : Nat) (hm : m < n) => refReady_any W E z n s (hd0.below hb (Nat.le_refl _)) O (by omega) hn m hm
  have crv := fun (W : World) (hb : Below W0.heap.size W0 W) (m : Nat) (hm : m < n) => refRecv_any W E z n s (hd0.below hb (Nat.le_refl _)) O (by omega) hn m hm t
  have hbx := fun (W : World) (hb : Below W0.heap.size W0 W) => k0.below hb k0.lt
  have hrx := fun (W : World) (hb : Below W0.heap.size W0 W) => r0.below hb r0.lt
  have hat : ∀ i, i < k → ∃ m : Nat, L[i]? = some m ∧ m < n := fun i hi => ⟨L[i], List.getElem?_eq_getElem (by omega), hin _ (List.getElem_mem _)⟩
  have hlen : (natI L).length = k := by simpa using hkL
  have hcx : ∀ W, Below w.heap.size w W → ∀ (i m : Nat), L[i]? = some m → i < k → ∃ ad, A = some ad ∧ ad.block < w.heap.size ∧ W.cell? (ad.add i) = some (.int .i64 (m : Int)) := by
    intro W hb i m hm hi
    obtain ⟨ad, e, _, hlt, hc⟩ := hr.at_ (i := i) (by rw [hlen]; exact hi)
    have hgn : gn (natI L) i = (m : Int) := by
      have h3 := gn_some (l := natI L) (m := i) (by rw [hlen]; exact hi)
      rw [List.getElem?_map, hm] at h3
      exact (Option.some.inj h3).symm
    rw [hgn] at hc
    exact ⟨ad, e, hlt, (hb.cell (by rw [block_of_add]; exact hlt)).trans hc⟩
  obtain ⟨R, hR⟩ : ∃ R, R = selectV s L t := ⟨_, rfl⟩
  rw [← hR]
  have hrl := fun m => O.row m
  have hrr := fun (m : Nat) (h : readyV s m = true) (hm : m < n) => (recv_ready O hm t h).1
  have RR := Lib.hid hrr
  clear hrr
  have HW0 := Lib.hid hW0; have HBX := Lib.hid hbx; have HRX := Lib.hid hrx; have L0 := Lib.hid l0; have Z0 := Lib.hid z0; have CO := Lib.hid co; have CRD := Lib.hid crd; have CRV := Lib.hid crv; have HAT := Lib.hid hat; have HCX := Lib.hid hcx; have HKL := Lib.hid hkL; have HR0 := Lib.hid hR; have HRL0 := Lib.hid hrl
  clear hW0 k0 r0 l0 z0 co h O hd0 crd crv hbx hrx hat hlen hcx hr hkL hin hR hrl
  go_enter Try.func32, Try.ntmps32
  go_upto_region 1 with fail
  rw [← HW0.out]
  clear HW0
  go_wp2_with fail
  go_loopw [11] (fun s11 wr => ∃ i : Nat, i ≤ k ∧ s11 = .int .i64 (i : Int) ∧ Hid (Below W0.heap.size W0 wr ∧ firstV s L 0 = firstV s (L.drop i) i)) (fun s11 _ => k - (intOf s11).toNat)
  case atStart => exact ⟨0, by omega, rfl, Lib.hid ⟨Below.refl _ _, rfl⟩⟩
  case round =>
    obtain ⟨i, hi, rfl, HI⟩ := hrel
    obtain ⟨x0, x1, x2, x3, x4, x5, x6, x7, x8, x9⟩ := blk10 (HBX.out wr HI.out.1)
    by_cases hlt : i < k
    · obtain ⟨m, hm, hmn⟩ := HAT.out i hlt
      obtain ⟨ad, rfl, hadl, hcx⟩ := HCX.out wr (L0.out.trans (HI.out.1.mono L0.out.size)) i m hm hlt
      have hrd := CRD.out wr HI.out.1 m hmn
      have hfs := HI.out.2
      have hdr : L.drop i = m :: L.drop (i + 1) := by
        have hil : i < L.length := by rw [HKL.out]; exact hlt
        rw [List.drop_eq_getElem_cons hil]
        rw [List.getElem?_eq_getElem hil] at hm
        rw [Option.some.inj hm]
      rw [hdr, show firstV s (m :: L.drop (i + 1)) i = if readyV s m then some (i, m) else firstV s (L.drop (i + 1)) (i + 1) from rfl] at hfs
      have q1 : (i : Int) < (k : Int) := by omega
      have q0 : (0 : Int) ≤ (i : Int) := by omega
      have HB := Lib.hid HI.out.1
      have HM := Lib.hid hm
      obtain ⟨rv, hrv⟩ : ∃ b, b = readyV s m := ⟨_, rfl⟩
      have hrd := CRD.out wr.drew HI.out.1.drew m hmn
      rw [← hrv] at hrd hfs
      have HRD := Lib.hid hrd
      have HFS := Lib.hid hfs
      have HRV := Lib.hid hrv
      have hbl := L0.out.size
      have hz0 := Z0.out
      have hzb := HI.out.1.size
      clear hrd hfs hdr hm HI hrv
      go_upto_region 4 with fail
      go_cut [12] (fun s12 wx => s12 = .bool rv ∧ Hid (Below W0.heap.size W0 wx))
      case first =>
        go_region_held3 (fun w' => w'.cell? ⟨w.heap.size, 0, none⟩ = some (.int .i64 0) ∧ w'.cell? ⟨w.heap.size, 1, none⟩ = some (NilS) ∧ w'.cell? ⟨w.heap.size, 2, none⟩ = some (NilS) ∧ w'.cell? ⟨w.heap.size, 3, none⟩ = some (NilS) ∧ w'.cell? ⟨w.heap.size, 4, none⟩ = some (.slice z.A1 n z.d1) ∧ w'.cell? ⟨w.heap.size, 5, none⟩ = some (NilS) ∧ w'.cell? ⟨w.heap.size, 6, none⟩ = some (NilS) ∧ w'.cell? ⟨w.heap.size, 7, none⟩ = some (NilS) ∧ w'.cell? ⟨w.heap.size, 8, none⟩ = some (.slice z.A2 n z.d2) ∧ w'.cell? ⟨w.heap.size, 9, none⟩ = some (.slice z.A3 n z.d3) ∧ w'.cell? (ad.add i) = some (.int .i64 (m : Int)))
          (first | with_reducible exact ⟨x0, x1, x2, x3, x4, x5, x6, x7, x8, x9, hcx⟩ | with_reducible exact ⟨y0, y1, y2, y3, y4, y5, y6, y7, y8, y9, hcy⟩ | go_keep)
          ((go_simp; with_reducible refine (HRD.out).mono ?_
            rintro e w3 ⟨rfl, hb3⟩
            have hbz : Below W0.heap.size W0 w3 := HB.out.drew.trans (hb3.mono (by show W0.heap.size ≤ wr.heap.size; omega))
            obtain ⟨y0, y1, y2, y3, y4, y5, y6, y7, y8, y9⟩ := blk10 (HBX.out w3 hbz)
            have hcy : w3.cell? (ad.add i) = some (.int .i64 (m : Int)) := (hb3.cell (by rw [block_of_add]; show ad.block < wr.heap.size; omega)).trans hcx
            have HB3 := Lib.hid hbz
            skip))
        all_goals
          go_wp2_with fail
          go_meet
          exact ⟨rfl, HB3⟩
      case rest =>
      obtain ⟨rfl, HB3⟩ := hcut
      obtain ⟨W3, hW3⟩ : ∃ W, W = wc := ⟨_, rfl⟩
      rw [← hW3] at HB3 ⊢
      have hzb3 := HB3.out.size
      clear hW3 HRD x0 x1 x2 x3 x4 x5 x6 x7 x8 x9 hcx
      obtain ⟨ad', e9, _, hcx⟩ := HCX.out W3 (L0.out.trans (HB3.out.mono L0.out.size)) i m HM.out hlt
      injection e9 with e9
      subst e9
      obtain ⟨x0, x1, x2, x3, x4, x5, x6, x7, x8, x9⟩ := blk10 (HBX.out W3 HB3.out)
      cases rv with
      | false =>
        have hfs := HFS.out
        simp only [Bool.false_eq_true, if_false] at hfs
        have HF2 := Lib.hid hfs
        clear hfs
        go_wp2_with fail
        exact ⟨⟨i + 1, by omega, by go_num, Lib.hid ⟨HB3.out, HF2.out⟩⟩, by simp [intOf]; omega⟩
      | true =>
        have hfs := HFS.out
        simp only [if_true] at hfs
        have hsel : R = ((recvV s m t).1, (i : Int), (recvV s m t).2.1, (recvV s m t).2.2.1, true) := by
          rw [HR0.out]
          unfold selectV
          rw [hfs]
          have h9 := RR.out m HRV.out.symm hmn
          simp only [h9]
        have HSEL := Lib.hid hsel
        have hadz : ad.block < W3.heap.size := by omega
        have hd1 := sel_did1 (w := w) (W0 := W0) (CRV.out W3.drew HB3.out.drew m hmn) HB3.out (by omega) ⟨x0, x1, x2, x3, x4, x5, x6, x7, x8, x9, hcx⟩ hadz
        have hd2 := sel_did2 (w := w) (W0 := W0) (CRV.out (W3.alloc (.cells zeroC 28)).drew ((HB3.out.alloc hzb3 _).drew) m hmn) HB3.out (by omega) ⟨x0, x1, x2, x3, x4, x5, x6, x7, x8, x9, hcx⟩ hadz
        have HD1 := Lib.hid hd1; have HD2 := Lib.hid hd2
        clear hsel hfs hd1 hd2
        go_upto_region 6 with fail
        go_cut [13, 14, 15] (fun s13 s14 s15 wx => SelC w W0 n (recvV s m t).1 (recvV s m t).2.1 (recvV s m t).2.2.1 s13 s14 s15 wx)
        case first =>
          go_region_held3 (fun w' => w'.cell? ⟨w.heap.size, 0, none⟩ = some (.int .i64 0) ∧ w'.cell? ⟨w.heap.size, 1, none⟩ = some (NilS) ∧ w'.cell? ⟨w.heap.size, 2, none⟩ = some (NilS) ∧ w'.cell? ⟨w.heap.size, 3, none⟩ = some (NilS) ∧ w'.cell? ⟨w.heap.size, 4, none⟩ = some (.slice z.A1 n z.d1) ∧ w'.cell? ⟨w.heap.size, 5, none⟩ = some (NilS) ∧ w'.cell? ⟨w.heap.size, 6, none⟩ = some (NilS) ∧ w'.cell? ⟨w.heap.size, 7, none⟩ = some (NilS) ∧ w'.cell? ⟨w.heap.size, 8, none⟩ = some (.slice z.A2 n z.d2) ∧ w'.cell? ⟨w.heap.size, 9, none⟩ = some (.slice z.A3 n z.d3) ∧ w'.cell? (ad.add i) = some (.int .i64 (m : Int)))
            (first | with_reducible exact ⟨x0, x1, x2, x3, x4, x5, x6, x7, x8, x9, hcx⟩ | with_reducible exact G3 | with_reducible exact G4 | go_keep)
            (first
              | (go_simp; (with_reducible refine (HD2.out).mono ?_); (rintro e w6 ⟨z', rfl, HC6, G3, G4, kn⟩); (obtain ⟨t0, t1, t2, t3, t4, t5, t6, t7, t8, t9⟩ := blk10 kn); (obtain ⟨v0, v1, v2, v3, v4, v5, v6, v7, v8, v9⟩ := froD kn))
              | (go_simp; (with_reducible refine (HD1.out).mono ?_); (rintro e w6 ⟨z', rfl, HC6, G3, G4⟩))
              | fail)
          all_goals
            clear x0 x1 x2 x3 x4 x5 x6 x7 x8 x9 hcx
            go_wp2_with fail
            go_meet
            exact HC6.out
        case rest =>
        obtain ⟨nb, z', rfl, rfl, rfl, kn, hbn, hdn⟩ := hcut
        obtain ⟨W5, hW5⟩ : ∃ W, W = wc := ⟨_, rfl⟩
        rw [← hW5] at kn hbn hdn ⊢
        have HE := Lib.hid (doc_fin2 (HRX.out W5 hbn) (L0.out.trans (hbn.mono L0.out.size)) hdn)
        obtain ⟨n0, n1, n2, n3, n4, n5, n6, n7, n8, n9⟩ := blk10 kn
        obtain ⟨s0, s1, s2, s3, s4, s5, s6, s7, s8, s9⟩ := blk10 (HRX.out W5 hbn)
        obtain ⟨v0, v1, v2, v3, v4, v5, v6, v7, v8, v9⟩ := froD (HRX.out W5 hbn)
        clear hW5 kn hbn hdn HD1 HD2 x0 x1 x2 x3 x4 x5 x6 x7 x8 x9 hcx
        go_wp2_with fail
        (try simp only [Exit.inBlock, Exit.then])
        refine bodyPost_ret (v := .tuple #[.agg (mkD z' n), .int .i64 (i : Int), .int .i64 (recvV s m t).2.1, .int .i64 (recvV s m t).2.2.1, .bool true]) (resC_4 rfl _ _ (w.heap.size + 1) 28 _ (0, 0) _ _ _ _ _ rfl rfl rfl rfl rfl HE.out.1 Try.underlying28 rfl (by kernel_rfl)) rfl ?_
        rw [HSEL.out]
        exact ⟨z', rfl, HE.out.2.1, HE.out.2.2⟩
    · obtain rfl : i = k := by omega
      have hno := HI.out.2
      rw [List.drop_eq_nil_of_le (by rw [HKL.out]; exact Nat.le_refl _)] at hno
      have hsel : R = (waitAll t L s, -1, 0, -1, false) := by
        rw [HR0.out]
        unfold selectV
        rw [hno]
        rfl
      have HSEL := Lib.hid hsel
      have co := CO.out wr HI.out.1
      have K1 := Lib.hid (HBX.out wr HI.out.1)
      have R1 := Lib.hid (HRX.out wr HI.out.1)
      have L1 := Lib.hid (L0.out.trans (HI.out.1.mono L0.out.size))
      have hz1 : w.heap.size + 1 < wr.heap.size := by have := Z0.out; have := HI.out.1.size; omega
      have COO := Lib.hid co
      clear hsel hno HI co CO CRD CRV
      go_wp2_with fail
      refine COO.out.mono ?_
      rintro e w1 ⟨z', B, rfl, hlt1, hle, hd, hb⟩
      have hk := K1.out.below hb K1.out.lt
      have hr := R1.out.below hb R1.out.lt
      have hl := L1.out.trans (hb.mono L1.out.size)
      obtain ⟨W1, hW1⟩ : ∃ W, W = ((((((((((w1.setCell ⟨w.heap.size, 0, none⟩ (.int .i64 0)).setCell ⟨w.heap.size, 1, none⟩ (.slice none 0 0)).setCell ⟨w.heap.size, 2, none⟩ (.slice none 0 0)).setCell ⟨w.heap.size, 3, none⟩ (.slice none 0 0)).setCell ⟨w.heap.size, 4, none⟩ (.slice z'.A1 n z'.d1)).setCell ⟨w.heap.size, 5, none⟩ (.slice none 0 0)).setCell ⟨w.heap.size, 6, none⟩ (.slice none 0 0)).setCell ⟨w.heap.size, 7, none⟩ (.slice none 0 0)).setCell ⟨w.heap.size, 8, none⟩ (.slice z'.A2 n z'.d2)).setCell ⟨w.heap.size, 9, none⟩ (.slice z'.A3 n z'.d3)) := ⟨_, rfl⟩
      have hF := fr_set10 w1 w.heap.size (.int .i64 0) (.slice none 0 0) (.slice none 0 0) (.slice none 0 0) (.slice z'.A1 n z'.d1) (.slice none 0 0) (.slice none 0 0) (.slice none 0 0) (.slice z'.A2 n z'.d2) (.slice z'.A3 n z'.d3)
      have hB := hk.set10 (.int .i64 0) (.slice none 0 0) (.slice none 0 0) (.slice none 0 0) (.slice z'.A1 n z'.d1) (.slice none 0 0) (.slice none 0 0) (.slice none 0 0) (.slice z'.A2 n z'.d2) (.slice z'.A3 n z'.d3)
      rw [← hW1] at hF hB
      have HD := Lib.hid (⟨hB, hF.blk hr (by omega), hd.fr hF (fun i h1 _ e => by omega), hl.trans (hF.below hl.size (fun i hi => by omega)), by omega, by have := hF.size; omega⟩ : DB w W1 B z' n s)
      obtain ⟨y0, y1, y2, y3, y4, y5, y6, y7, y8, y9⟩ := blk10 hk
      have g0 := hk.frozen 0
      have g1 := hk.frozen 1
      have g2 := hk.frozen 2
      have g3 := hk.frozen 3
      have g4 := hk.frozen 4
      have g5 := hk.frozen 5
      have g6 := hk.frozen 6
      have g7 := hk.frozen 7
      have g8 := hk.frozen 8
      have g9 := hk.frozen 9
      have HW1 := Lib.hid hW1
      clear hk hr hl hF hB hlt1 hle hd hb hW1 x0 x1 x2 x3 x4 x5 x6 x7 x8 x9 K1 R1 COO
      go_upto_region 9 with fail
      rw [← HW1.out]
      clear HW1 y0 y1 y2 y3 y4 y5 y6 y7 y8 y9 g0 g1 g2 g3 g4 g5 g6 g7 g8 g9
      go_wp2_with fail
      go_loopw [17] (fun s17 wr2 => ∃ j : Nat, j ≤ i ∧ s17 = .int .i64 (j : Int) ∧ Hid (DB w wr2 B z' n (waitAll t (L.take j) s))) (fun s17 _ => i - (intOf s17).toNat)
      case atStart => exact ⟨0, by omega, rfl, HD⟩
      case round =>
        clear HD
        obtain ⟨j, hj, rfl, HD⟩ := hrel
        obtain ⟨W2, hW2⟩ : ∃ W, W = wr := ⟨_, rfl⟩
        rw [← hW2] at HD ⊢
        clear hW2
        obtain ⟨x0, x1, x2, x3, x4, x5, x6, x7, x8, x9⟩ := blk10 HD.out.k
        by_cases hlt2 : j < i
        · obtain ⟨m, hm, hmn⟩ := HAT.out j hlt2
          obtain ⟨ad, rfl, hadl, hcx⟩ := HCX.out W2 HD.out.l j m hm hlt2
          have hsn : L.take (j + 1) = L.take j ++ [m] := by rw [List.take_add_one, hm]; rfl
          have hwa := waitAll_snoc t (L.take j) m s
          rw [← hsn] at hwa
          have hlj : (L.take j).length ≤ 1000 := Nat.le_trans (List.length_take_le _ _) (by omega)
          have hgl2 : (gl (waitAll t (L.take j) s).rq m).length ≤ 45000 := by
            have h1 := waitAll_len t (L.take j) s m
            have h2 := HRL0.out m
            omega
          obtain ⟨si, hsi⟩ : ∃ x, x = waitAll t (L.take j) s := ⟨_, rfl⟩
          rw [← hsi] at HD hwa hgl2
          obtain ⟨bq, Aq, cq, f1, f2, f3, f4, f5, f6, f7, f8⟩ := HD.out.at_rq hmn
          rw [f1] at x9
          have hx90 : W2.cell? ⟨w.heap.size, 9, none⟩ = some (.slice (some ⟨bq, 0, none⟩) n z'.d3) := x9
          obtain ⟨row, hrow⟩ : ∃ row, row = gl si.rq m := ⟨_, rfl⟩
          obtain ⟨rl, hrl⟩ : ∃ rl, rl = row.length := ⟨_, rfl⟩
          rw [← hrow] at f5 f7 f8 hgl2
          rw [← hrl] at f5 f7 f8 hgl2
          have hBW := HD.out.le
          have hBl := HD.out.lt
          have hgl := HD.out.k.lt
          have hfb : ∀ k, (Value.slice Aq rl cq).ownBlock = some k → B ≤ k := fun k hk => (f7.lt hk).1
          have hkp : ∀ W', Fr (fun k => (Value.slice Aq rl cq).ownBlock = some k) W2 W' → W'.cell? ⟨w.heap.size, 9, none⟩ = some (.slice (some ⟨bq, 0, none⟩) n z'.d3) ∧ W'.cell? (ad.add j) = some (.int .i64 (m : Int)) := fun W' hf =>
            ⟨(hf.cell (p := ⟨w.heap.size, 9, none⟩) hgl (fun e => by have := hfb _ e; simp only at this; omega)).trans hx90, (hf.cell (by rw [block_of_add]; omega) (fun e => by rw [block_of_add] at e; have := hfb _ e; omega)).trans hcx⟩
          have hks : ∀ W' u, Fr (fun k => (Value.slice Aq rl cq).ownBlock = some k) W2 W' → (W'.setCell ⟨bq, m, none⟩ u).cell? ⟨w.heap.size, 9, none⟩ = some (.slice (some ⟨bq, 0, none⟩) n z'.d3) ∧ (W'.setCell ⟨bq, m, none⟩ u).cell? (ad.add j) = some (.int .i64 (m : Int)) := fun W' u hf =>
            ⟨(World.cell?_setCell_far _ _ _ _ (by show bq ≠ w.heap.size; omega)).trans (hkp W' hf).1, (World.cell?_setCell_far _ _ _ _ (by rw [block_of_add]; show bq ≠ ad.block; omega)).trans (hkp W' hf).2⟩
          have hblk := fun W' (hf : Fr (fun k => (Value.slice Aq rl cq).ownBlock = some k) W2 W') => hf
          have hbqn : (Value.slice Aq rl cq).ownBlock ≠ some bq := HD.out.own_ne f1 hmn (by rw [f5])
          have hkr : ∀ W', Fr (fun k => (Value.slice Aq rl cq).ownBlock = some k) W2 W' → W'.cell? ⟨bq, m, none⟩ = some (.slice Aq rl cq) ∧ W'.frozen? ⟨bq, m, none⟩ = false := fun W' hf =>
            ⟨(hf.cell (p := ⟨bq, m, none⟩) f4 hbqn).trans f5, by
              have h7 := f6 m
              unfold World.frozen? at h7 ⊢
              rw [hf.block bq f4 hbqn]
              exact h7⟩
          have KP := Lib.hid hkp; have KS := Lib.hid hks; have KR := Lib.hid hkr
          have F7 := Lib.hid f7; have F8 := Lib.hid f8; have HRL := Lib.hid hrl; have HWA := Lib.hid hwa; have HRW := Lib.hid hrow
          have f60 := f6 m
          have hgq1 : ¬ bq = w.heap.size := by omega
          have hgq2 : ¬ w.heap.size = bq := by omega
          have c0 : m < z'.d3 := by omega
          have q1 : (j : Int) < (i : Int) := by omega
          have q0 : (0 : Int) ≤ (j : Int) := by omega
          have q3 : (m : Int) < (n : Int) := by omega
          have q2 : (0 : Int) ≤ (m : Int) := by omega
          clear f1 f2 f6 f7 f8 hrl hwa hrow hsi hkp hks hkr hblk hx90 hsn hm hlj HD hfb
          go_upto_region 12 with fail
          refine wp_region_noPanic ?_
          refine wp_region_held_drew (S := fun w' => w'.cell? ⟨w.heap.size, 9, none⟩ = some (.slice (some ⟨bq, 0, none⟩) n z'.d3) ∧ w'.cell? (ad.add j) = some (.int .i64 (m : Int))) (by kernel_rfl) (KP.out _ (Fr.refl _ _).drew) (fun hHeld => ?_)
          refine wpAnyH_take (i := 0) (v := ?v1) rfl (by kernel_rfl) (by kernel_rfl) (by kernel_rfl) (fun _ _ _ h => h) (Or.inl ⟨by rfl, ?hy1⟩) (by assumption) ?rest1
          case hy1 => (intro w hSw; (try dsimp only at hSw); go_simp; try (with_reducible rfl))
          try simp only [Act.put, List.setIfInBounds_toArray, List.set_cons_zero, List.set_cons_succ]
          refine wpAnyH_take (i := 1) (v := ?v2) rfl (by kernel_rfl) (by kernel_rfl) (by kernel_rfl) (fun _ _ _ h => h) (Or.inl ⟨by rfl, ?hy2⟩) (by assumption) ?rest2
          case hy2 => (intro w hSw; (try dsimp only at hSw); go_simp; try (with_reducible rfl))
          try simp only [Act.put, List.setIfInBounds_toArray, List.set_cons_zero, List.set_cons_succ]
          refine wpAnyH_take (i := 2) (v := ?v3) rfl (by kernel_rfl) (by kernel_rfl) (by kernel_rfl) (fun _ _ _ h => h) (Or.inl ⟨by rfl, ?hy3⟩) (by assumption) ?rest3
          case hy3 => (intro w hSw; (try dsimp only at hSw); go_simp; try (with_reducible rfl))
          try simp only [Act.put, List.setIfInBounds_toArray, List.set_cons_zero, List.set_cons_succ]
          refine wpAnyH_take (i := 3) (v := ?v4) rfl (by kernel_rfl) (by kernel_rfl) (by kernel_rfl) (fun _ _ _ h => h) (Or.inl ⟨by rfl, ?hy4⟩) (by assumption) ?rest4
          case hy4 => (intro w hSw; (try dsimp only at hSw); go_simp; try (with_reducible rfl))
          try simp only [Act.put, List.setIfInBounds_toArray, List.set_cons_zero, List.set_cons_succ]
          refine wpAnyH_take (i := 4) (v := ?v5) rfl (by kernel_rfl) (by kernel_rfl) (by kernel_rfl) (fun _ _ _ h => h) (Or.inl ⟨by rfl, ?hy5⟩) (by assumption) ?rest5
          case hy5 => (intro w hSw; (try dsimp only at hSw); go_simp; try (with_reducible rfl))
          try simp only [Act.put, List.setIfInBounds_toArray, List.set_cons_zero, List.set_cons_succ]
          refine wpAnyH_take (i := 5) (v := ?v6) rfl (by kernel_rfl) (by kernel_rfl) (by kernel_rfl) (fun _ _ _ h => h) (Or.inl ⟨by rfl, ?hy6⟩) (by assumption) ?rest6
          case hy6 => (intro w hSw; (try dsimp only at hSw); go_simp; try (with_reducible rfl))
          try simp only [Act.put, List.setIfInBounds_toArray, List.set_cons_zero, List.set_cons_succ]
          refine wpAnyH_take (i := 6) (v := ?v7) rfl (by kernel_rfl) (by kernel_rfl) (by kernel_rfl) (fun _ _ _ h => h) (Or.inl ⟨by rfl, ?hy7⟩) (by assumption) ?rest7
          case hy7 => (intro w hSw; (try dsimp only at hSw); go_simp; try (with_reducible rfl))
          try simp only [Act.put, List.setIfInBounds_toArray, List.set_cons_zero, List.set_cons_succ]
          refine wpAnyH_take (i := 7) (v := ?v8) rfl (by kernel_rfl) (by kernel_rfl) (by kernel_rfl) (fun _ _ _ h => h) (Or.inl ⟨by rfl, ?hy8⟩) (by assumption) ?rest8
          case hy8 => (intro w hSw; (try dsimp only at hSw); go_simp; try (with_reducible rfl))
          try simp only [Act.put, List.setIfInBounds_toArray, List.set_cons_zero, List.set_cons_succ]
          refine wpAnyH_take (i := 8) (v := ?v9) rfl (by kernel_rfl) (by kernel_rfl) (by kernel_rfl) (fun _ _ _ h => h) (Or.inl ⟨by rfl, ?hy9⟩) (by assumption) ?rest9
          case hy9 => (intro w hSw; (try dsimp only at hSw); go_simp; try (with_reducible rfl))
          try simp only [Act.put, List.setIfInBounds_toArray, List.set_cons_zero, List.set_cons_succ]
          refine wpAnyH_take (i := 9) (v := ?v10) rfl (by kernel_rfl) (by kernel_rfl) (by kernel_rfl) (fun _ _ _ h => h) (Or.inl ⟨by rfl, ?hy10⟩) (by assumption) ?rest10
          case hy10 => (intro w hSw; (try dsimp only at hSw); go_simp; try (with_reducible rfl))
          try simp only [Act.put, List.setIfInBounds_toArray, List.set_cons_zero, List.set_cons_succ]
          refine wpAnyH_take (i := 10) (v := ?v11) rfl (by kernel_rfl) (by kernel_rfl) (by kernel_rfl) (fun _ _ _ h => h) (Or.inl ⟨by rfl, ?hy11⟩) (by assumption) ?rest11
          case hy11 => (intro w hSw; (try dsimp only at hSw); go_simp; try (with_reducible rfl))
          try simp only [Act.put, List.setIfInBounds_toArray, List.set_cons_zero, List.set_cons_succ]
          refine wpAnyH_take (i := 11) (v := ?v12) rfl (by kernel_rfl) (by kernel_rfl) (by kernel_rfl) (fun _ _ _ h => h) (Or.inl ⟨by rfl, ?hy12⟩) (by assumption) ?rest12
          case hy12 => (intro w hSw; (try dsimp only at hSw); go_simp; try (with_reducible rfl))
          try simp only [Act.put, List.setIfInBounds_toArray, List.set_cons_zero, List.set_cons_succ]
          refine wpAnyH_take (i := 12) (v := ?v13) rfl (by kernel_rfl) (by kernel_rfl) (by kernel_rfl) (fun _ _ _ h => h) (Or.inl ⟨by rfl, ?hy13⟩) (by assumption) ?rest13
          case hy13 => (intro w hSw; (try dsimp only at hSw); go_simp; try (with_reducible rfl))
          try simp only [Act.put, List.setIfInBounds_toArray, List.set_cons_zero, List.set_cons_succ]
          refine wpAnyH_take (i := 14) (v := ?v14) rfl (by kernel_rfl) (by kernel_rfl) (by kernel_rfl) (fun _ _ _ h => h) (Or.inl ⟨by rfl, ?hy14⟩) (by assumption) ?rest14
          case hy14 => (intro w hSw; (try dsimp only at hSw); go_simp; try (with_reducible rfl))
          try simp only [Act.put, List.setIfInBounds_toArray, List.set_cons_zero, List.set_cons_succ]
          refine wpAnyH_ready (rs := [13, 15]) (by kernel_rfl) (by simp) ?_
          refine AllReadyH.cons rfl (fun K hK => ?_) (AllReadyH.cons rfl (fun K hK => ?_) AllReadyH.nil)
          · go_simp
            refine hK.out _ _ ?_ (fun hHeld => ?_)
            · first | exact KP.out _ (Fr.refl _ _).drew | exact KP.out _ ((Fr.refl _ _).drewN 1)
            clear hK K
            try simp only [Act.put, List.setIfInBounds_toArray, List.set_cons_zero, List.set_cons_succ]
            refine wpAnyH_ready (rs := [15]) (by kernel_rfl) (by simp) ?_
            refine AllReadyH.cons rfl (fun K hK => ?_) AllReadyH.nil
            go_simp
            refine hK.out _ _ ?_ (fun hHeld => ?_)
            · first | exact KP.out _ ((Fr.refl _ _).drew.alloc _) | exact KP.out _ (((Fr.refl _ _).alloc _).drew)
            clear hK K
            try simp only [Act.put, List.setIfInBounds_toArray, List.set_cons_zero, List.set_cons_succ]
            refine wpAnyH_ready (rs := [16]) (by kernel_rfl) (by simp) ?_
            refine AllReadyH.cons rfl (fun K hK => ?_) AllReadyH.nil
            refine wp_append_sl (.tmp 68) (.tmp 70) (by rfl) B (.slice Aq rl cq) row [t] (by rfl) (F7.out.fr ((Fr.refl (fun _ => False) W2).drew.alloc _) (fun _ _ h => h)) ⟨W2.heap.size, 0, none⟩ 1 1 (by rfl) (by rfl) (reads_one_c W2.drew t _) (by rw [← HRL.out]; omega) (by simp; omega) ?_
            intro A' c' w2 hs2 hf2 hk2
            rw [← HRL.out] at hs2 hk2 ⊢
            have hf3 : Fr (fun k => (Value.slice Aq rl cq).ownBlock = some k) W2 w2 := ((Fr.refl (fun _ => False) W2).drew.alloc _ |>.mono (fun _ _ h => h.elim)).trans hf2 (fun _ _ h => h)
            obtain ⟨⟨v5, v6, v7⟩, HT0⟩ := F8.out w2 A' (rl + 1) c' (row ++ [t]) (by rw [List.length_append, ← HRL.out]; rfl) hf3 hs2 (fun k hk => (hk2 k hk).imp_right (fun h => by simp at h; omega))
            have HT := Lib.hid HT0; have HF3 := Lib.hid hf3
            clear HT0 hs2 hf2 hk2 hf3
            refine hK.out _ _ ?_ (fun hHeld => ?_)
            · exact KP.out _ HF3.out
            clear hK K
            try simp only [Act.put, List.setIfInBounds_toArray, List.set_cons_zero, List.set_cons_succ]
            refine wpAnyH_take (i := 17) (v := ?v15) rfl (by kernel_rfl) (by kernel_rfl) (by kernel_rfl) (fun _ _ _ h => h) (Or.inl ⟨by rfl, ?hy15⟩) (by assumption) ?rest15
            case hy15 => (intro w hSw; (try dsimp only at hSw); go_simp; try (with_reducible rfl))
            try simp only [Act.put, List.setIfInBounds_toArray, List.set_cons_zero, List.set_cons_succ]
            refine wpAnyH_ready (rs := [18]) (by kernel_rfl) (by simp) ?_
            refine AllReadyH.cons rfl (fun K hK => ?_) AllReadyH.nil
            go_simp
            refine hK.out _ _ ?_ (fun hHeld => ?_)
            · exact KS.out _ _ HF3.out
            clear hK K
            try simp only [Act.put, List.setIfInBounds_toArray, List.set_cons_zero, List.set_cons_succ]
            refine wpAnyH_done (by kernel_rfl) ?_ _
            refine NoPanic.normal ?_
            go_wp2_with fail
            refine ⟨⟨j + 1, by omega, by go_num, Lib.hid ?_⟩, by simp [intOf]; omega⟩
            have h9 := HT.out
            rw [HRW.out] at h9
            rw [HWA.out]
            exact h9
          · go_simp
            refine hK.out _ _ ?_ (fun hHeld => ?_)
            · first | exact KP.out _ ((Fr.refl _ _).drew.alloc _) | exact KP.out _ (((Fr.refl _ _).alloc _).drew)
            clear hK K
            try simp only [Act.put, List.setIfInBounds_toArray, List.set_cons_zero, List.set_cons_succ]
            obtain ⟨y1, y2⟩ := KR.out _ ((Fr.refl _ W2).drew.alloc (.cells #[.int .i64 t] 3))
            obtain ⟨y3, y4⟩ := KR.out _ ((Fr.refl _ W2).alloc (.cells #[.int .i64 t] 3))
            refine wpAnyH_ready (rs := [13]) (by kernel_rfl) (by simp) ?_
            refine AllReadyH.cons rfl (fun K hK => ?_) AllReadyH.nil
            go_simp
            refine hK.out _ _ ?_ (fun hHeld => ?_)
            · first | exact KP.out _ ((Fr.refl _ _).drew.alloc _) | exact KP.out _ (((Fr.refl _ _).alloc _).drew)
            clear hK K
            try simp only [Act.put, List.setIfInBounds_toArray, List.set_cons_zero, List.set_cons_succ]
            refine wpAnyH_ready (rs := [16]) (by kernel_rfl) (by simp) ?_
            refine AllReadyH.cons rfl (fun K hK => ?_) AllReadyH.nil
            refine wp_append_sl (.tmp 68) (.tmp 70) (by rfl) B (.slice Aq rl cq) row [t] (by rfl) (F7.out.fr ((Fr.refl (fun _ => False) W2).drew.alloc _) (fun _ _ h => h)) ⟨W2.heap.size, 0, none⟩ 1 1 (by rfl) (by rfl) (reads_one_c W2.drew t _) (by rw [← HRL.out]; omega) (by simp; omega) ?_
            intro A' c' w2 hs2 hf2 hk2
            rw [← HRL.out] at hs2 hk2 ⊢
            have hf3 : Fr (fun k => (Value.slice Aq rl cq).ownBlock = some k) W2 w2 := ((Fr.refl (fun _ => False) W2).drew.alloc _ |>.mono (fun _ _ h => h.elim)).trans hf2 (fun _ _ h => h)
            obtain ⟨⟨v5, v6, v7⟩, HT0⟩ := F8.out w2 A' (rl + 1) c' (row ++ [t]) (by rw [List.length_append, ← HRL.out]; rfl) hf3 hs2 (fun k hk => (hk2 k hk).imp_right (fun h => by simp at h; omega))
            have HT := Lib.hid HT0; have HF3 := Lib.hid hf3
            clear HT0 hs2 hf2 hk2 hf3
            refine hK.out _ _ ?_ (fun hHeld => ?_)
            · exact KP.out _ HF3.out
            clear hK K
            try simp only [Act.put, List.setIfInBounds_toArray, List.set_cons_zero, List.set_cons_succ]
            refine wpAnyH_take (i := 17) (v := ?v16) rfl (by kernel_rfl) (by kernel_rfl) (by kernel_rfl) (fun _ _ _ h => h) (Or.inl ⟨by rfl, ?hy16⟩) (by assumption) ?rest16
            case hy16 => (intro w hSw; (try dsimp only at hSw); go_simp; try (with_reducible rfl))
            try simp only [Act.put, List.setIfInBounds_toArray, List.set_cons_zero, List.set_cons_succ]
            refine wpAnyH_ready (rs := [18]) (by kernel_rfl) (by simp) ?_
            refine AllReadyH.cons rfl (fun K hK => ?_) AllReadyH.nil
            go_simp
            refine hK.out _ _ ?_ (fun hHeld => ?_)
            · exact KS.out _ _ HF3.out
            clear hK K
            try simp only [Act.put, List.setIfInBounds_toArray, List.set_cons_zero, List.set_cons_succ]
            refine wpAnyH_done (by kernel_rfl) ?_ _
            refine NoPanic.normal ?_
            go_wp2_with fail
            refine ⟨⟨j + 1, by omega, by go_num, Lib.hid ?_⟩, by simp [intOf]; omega⟩
            have h9 := HT.out
            rw [HRW.out] at h9
            rw [HWA.out]
            exact h9
        · obtain rfl : j = i := by omega
          have htk : L.take j = L := List.take_of_length_le (by rw [HKL.out]; exact Nat.le_refl _)
          have hd := HD.out
          rw [htk] at hd
          have HD2 := Lib.hid hd
          have HE := Lib.hid (doc_fin hd)
          clear hd htk HD
          obtain ⟨s0, s1, s2, s3, s4, s5, s6, s7, s8, s9⟩ := blk10 HD2.out.r
          obtain ⟨v0, v1, v2, v3, v4, v5, v6, v7, v8, v9⟩ := froD HD2.out.r
          clear HD2
          go_wp2_with fail
          (try simp only [Exit.inBlock, Exit.then])
          refine bodyPost_ret (v := .tuple #[.agg (mkD z' n), .int .i64 (-1), .int .i64 0, .int .i64 (-1), .bool false]) (resC_4 rfl _ _ (w.heap.size + 1) 28 _ (0, 0) _ _ _ _ _ rfl rfl rfl rfl rfl HE.out.1 Try.underlying28 rfl (by kernel_rfl)) rfl ?_
          rw [HSEL.out]
          exact ⟨z', rfl, HE.out.2.1, HE.out.2.2⟩
end Go.Proofs.Ytbgigkamlnchcaa
