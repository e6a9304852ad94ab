/-
  What a Reader and the document's reader are asked alike: to note an error.
-/
import Derived.Test.YtnhibnjgdkpomaaAskFx
namespace Go.Proofs.Ytnhibnjgdkpomaa
open Go.RowKit Plain
set_option linter.unusedVariables false
set_option linter.unusedSimpArgs false
attribute [local go_sem ↓] Go.wp_at_zero Go.wp_at_succ

set_option maxRecDepth 100000 in
set_option maxHeartbeats 4000000 in
theorem ask_fail (n c at_ : Nat) (A : Option Addr) (bs : List Nat) (e : Int) (pn pv : Int) (ps : ByteArray) (base g : Nat) (v : Value) (w : World) (hR : Rd w base g v bs at_ e) :
    Calls Try.prog 15 #[.pointer (some ⟨g, 0, none⟩), .agg #[.slice A n c, .int .i64 (at_ : Int), .int .i64 e], .agg #[.int .i64 5, .int .i64 pn, .int .i64 pv, .string ps]] w (Asked A n c base g v bs at_ (if e = 0 then pv.tmod 10 else e) w) := by
  have HRD := Lib.hid hR
  have hg := hR.lt
  clear hR
  by_cases he : e = 0
  · subst he
    rw [if_pos rfl]
    go_enter Try.func15, Try.ntmps15
    go_wp2_with fail
    refine (rd_fail base g v bs at_ 0 (pv.tmod 10) _ ((((HRD.out.alloc _).alloc _).alloc _))).mono ?_
    rintro en w2 ⟨rfl, hst⟩
    have hz2 := hst.2.size
    simp at hz2
    have hx2 : Blk w2 w.heap.size 34 #[.slice A n c, .int .i64 (at_ : Int), .int .i64 (pv.tmod 10)] := by
      refine hst.2.blk ?_ (by omega)
      exact ((Blk.new w _ _).alloc _).alloc _
    have hr2 : Blk w2 (w.heap.size + 2) 34 #[.slice none 0 0, .int .i64 0, .int .i64 0] := by
      refine hst.2.blk ?_ (by omega)
      have := Blk.new ((w.alloc (.cells #[.slice A n c, .int .i64 (at_ : Int), .int .i64 (pv.tmod 10)] 34)).alloc (.cells #[.int .i64 5, .int .i64 pn, .int .i64 pv, .string ps] 38)) 34 #[.slice none 0 0, .int .i64 0, .int .i64 0]
      simpa using this
    have x0 : w2.cell? ⟨w.heap.size, 0, none⟩ = some (.slice A n c) := by rw [hx2.cell]; rfl
    have x1 : w2.cell? ⟨w.heap.size, 1, none⟩ = some (.int .i64 (at_ : Int)) := by rw [hx2.cell]; rfl
    have x2 : w2.cell? ⟨w.heap.size, 2, none⟩ = some (.int .i64 (pv.tmod 10)) := by rw [hx2.cell]; rfl
    have c0 : w2.cell? ⟨w.heap.size + 2, 0, none⟩ = some (.slice none 0 0) := by rw [hr2.cell]; rfl
    have c1 : w2.cell? ⟨w.heap.size + 2, 1, none⟩ = some (.int .i64 0) := by rw [hr2.cell]; rfl
    have c2 : w2.cell? ⟨w.heap.size + 2, 2, none⟩ = some (.int .i64 0) := by rw [hr2.cell]; rfl
    have f0 := hr2.frozen 0
    have f1 := hr2.frozen 1
    have f2 := hr2.frozen 2
    have HST := Lib.hid hst
    clear hst hx2 hr2
    go_wp2_with fail
    refine bodyPost_ret (v := .tuple #[.agg #[.slice A n c, .int .i64 (at_ : Int), .int .i64 (pv.tmod 10)], .bool true]) (by simp [results, Try.results15, go_sem, c0, c1, c2]) rfl ⟨rfl, ?_⟩
    refine step_end HRD.out (w1 := ((w.alloc (.cells #[.slice A n c, .int .i64 (at_ : Int), .int .i64 (pv.tmod 10)] 34)).alloc (.cells #[.int .i64 5, .int .i64 pn, .int .i64 pv, .string ps] 38)).alloc (.cells #[.slice none 0 0, .int .i64 0, .int .i64 0] 34)) ?_ (Fr.refl (fun i => i = g) _) ?_
    · exact (((Below.refl _ w).alloc (Nat.le_refl _) _).alloc (by simp) _).alloc (by simp; omega) _
    · have := HST.out
      simpa using this
  · rw [if_neg he]
    have he' : (e == 0) = false := by simpa using he
    have HE := Lib.hid he
    clear he
    go_enter Try.func15, Try.ntmps15
    go_wp2_with fail
    refine (rd_fail base g v bs at_ e (pv.tmod 10) _ ((((HRD.out.alloc _).alloc _).alloc _))).mono ?_
    rintro en w2 ⟨rfl, hst⟩
    have hz2 := hst.2.size
    simp at hz2
    have hx2 : Blk w2 w.heap.size 34 #[.slice A n c, .int .i64 (at_ : Int), .int .i64 (e)] := by
      refine hst.2.blk ?_ (by omega)
      exact ((Blk.new w _ _).alloc _).alloc _
    have hr2 : Blk w2 (w.heap.size + 2) 34 #[.slice none 0 0, .int .i64 0, .int .i64 0] := by
      refine hst.2.blk ?_ (by omega)
      have := Blk.new ((w.alloc (.cells #[.slice A n c, .int .i64 (at_ : Int), .int .i64 (e)] 34)).alloc (.cells #[.int .i64 5, .int .i64 pn, .int .i64 pv, .string ps] 38)) 34 #[.slice none 0 0, .int .i64 0, .int .i64 0]
      simpa using this
    have x0 : w2.cell? ⟨w.heap.size, 0, none⟩ = some (.slice A n c) := by rw [hx2.cell]; rfl
    have x1 : w2.cell? ⟨w.heap.size, 1, none⟩ = some (.int .i64 (at_ : Int)) := by rw [hx2.cell]; rfl
    have x2 : w2.cell? ⟨w.heap.size, 2, none⟩ = some (.int .i64 (e)) := by rw [hx2.cell]; rfl
    have c0 : w2.cell? ⟨w.heap.size + 2, 0, none⟩ = some (.slice none 0 0) := by rw [hr2.cell]; rfl
    have c1 : w2.cell? ⟨w.heap.size + 2, 1, none⟩ = some (.int .i64 0) := by rw [hr2.cell]; rfl
    have c2 : w2.cell? ⟨w.heap.size + 2, 2, none⟩ = some (.int .i64 0) := by rw [hr2.cell]; rfl
    have f0 := hr2.frozen 0
    have f1 := hr2.frozen 1
    have f2 := hr2.frozen 2
    have HST := Lib.hid hst
    clear hst hx2 hr2
    go_wp2_with fail
    refine bodyPost_ret (v := .tuple #[.agg #[.slice A n c, .int .i64 (at_ : Int), .int .i64 (e)], .bool true]) (by simp [results, Try.results15, go_sem, c0, c1, c2]) rfl ⟨rfl, ?_⟩
    refine step_end HRD.out (w1 := ((w.alloc (.cells #[.slice A n c, .int .i64 (at_ : Int), .int .i64 (e)] 34)).alloc (.cells #[.int .i64 5, .int .i64 pn, .int .i64 pv, .string ps] 38)).alloc (.cells #[.slice none 0 0, .int .i64 0, .int .i64 0] 34)) ?_ (Fr.refl (fun i => i = g) _) ?_
    · exact (((Below.refl _ w).alloc (Nat.le_refl _) _).alloc (by simp) _).alloc (by simp; omega) _
    · have := HST.out
      rw [if_neg HE.out] at this; exact this
end Go.Proofs.Ytnhibnjgdkpomaa
