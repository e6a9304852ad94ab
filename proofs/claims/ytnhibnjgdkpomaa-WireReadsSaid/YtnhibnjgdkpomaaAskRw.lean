/-
  What a Reader and the document's reader are asked alike: bytes as they are.
-/
import Derived.Test.YtnhibnjgdkpomaaAskFl
namespace Go.Proofs.Ytnhibnjgdkpomaa
open Go.RowKit Plain
set_option linter.unusedVariables false
set_option linter.unusedSimpArgs false
attribute [local go_sem ↓] Go.wp_at_zero Go.wp_at_succ

/-- What the document's Raw leaves. -/
def RefTellsB (A : Option Addr) (n c at_ at' : Nat) (e e' x : Int) (ys : List Nat) (BB : Nat) (bs : List Nat) : Prop :=
  ∀ W : World, Reads W BB 1 A n (BS bs) → BB ≤ W.heap.size → Calls Try.prog 45 #[.agg #[.slice A n c, .int .i64 (at_ : Int), .int .i64 e], .int .i64 x] W fun en w' => ∃ A' c', en = .returned (.tuple #[.agg #[.slice A n c, .int .i64 (at' : Int), .int .i64 e'], .slice A' ys.length c']) ∧ Reads W BB 1 A' ys.length (BS ys) ∧ Below W.heap.size W w'
/-- What the program's Raw leaves. -/
def RdTellsB (base g : Nat) (v : Value) (bs : List Nat) (at_ : Nat) (e : Int) (at' : Nat) (e' x : Int) (ys : List Nat) : Prop :=
  ∀ W : World, Rd W base g v bs at_ e → Calls Try.prog 25 #[.pointer (some ⟨g, 0, none⟩), .int .i64 x] W fun en w' => ∃ A' c', en = .returned (.slice A' ys.length c') ∧ Reads w' w'.heap.size 1 A' ys.length (BS ys) ∧ RdStep base g v bs (at', e') W w'

set_option maxRecDepth 100000 in
set_option maxHeartbeats 4000000 in
theorem ask_raw (bs ys : List Nat) (n c at_ at' : Nat) (A : Option Addr) (e e' : Int) (kind pn pv : Int) (ps : ByteArray) (base g : Nat) (v : Value) (w : World) (BB : Nat)
    (k0 : (kind == 0) = false) (k1 : (kind == 1) = false) (k2 : (kind == 2) = false) (k3 : (kind == 3) = false) (k4 : (kind == 4) = false) (k5 : (kind == 5) = false)
    (hys : ys.length ≤ 140737488355328) (hr : Reads w BB 1 A n (BS bs)) (hB : BB ≤ w.heap.size) (hBg : BB ≤ g) (hR : Rd w base g v bs at_ e)
    (href : RefTellsB A n c at_ at' e e' pn ys BB bs)
    (hrd : RdTellsB base g v bs at_ e at' e' pn ys) :
    Calls Try.prog 15 #[.pointer (some ⟨g, 0, none⟩), .agg #[.slice A n c, .int .i64 (at_ : Int), .int .i64 e], .agg #[.int .i64 kind, .int .i64 pn, .int .i64 pv, .string ps]] w (Asked A n c base g v bs at' e' w) := by
  have HR := Lib.hid hr
  have HRD := Lib.hid hR
  have HREF := Lib.hid href
  have HP := Lib.hid hrd
  have hg := hR.lt
  clear hr hR href hrd
  go_enter Try.func15, Try.ntmps15
  go_wp2_with fail
  refine (HREF.out _ (((HR.out.alloc hB _).alloc (by simp; omega) _).alloc (by simp; omega) _) (by simp; omega)).mono ?_
  rintro en w1 ⟨A', c', rfl, hrd1, h4⟩
  have z1 : w.heap.size + 2 < w1.heap.size := by have := h4.size; simp at this; omega
  have hp1 : Blk w1 (w.heap.size + 1) 38 #[.int .i64 kind, .int .i64 pn, .int .i64 pv, .string ps] := by
    refine Blk.below ?_ h4 (by simp)
    refine Blk.alloc ?_ _
    have := Blk.new (w.alloc (.cells #[.slice A n c, .int .i64 (at_ : Int), .int .i64 e] 34)) 38 #[.int .i64 kind, .int .i64 pn, .int .i64 pv, .string ps]
    simpa using this
  have hr1 : Blk w1 (w.heap.size + 2) 34 #[.slice none 0 0, .int .i64 0, .int .i64 0] := by
    refine Blk.below ?_ h4 (by simp)
    have := Blk.new ((w.alloc (.cells #[.slice A n c, .int .i64 (at_ : Int), .int .i64 e] 34)).alloc (.cells #[.int .i64 kind, .int .i64 pn, .int .i64 pv, .string ps] 38)) 34 #[.slice none 0 0, .int .i64 0, .int .i64 0]
    simpa using this
  have hb1 : Below w.heap.size w w1 := ((((Below.refl _ w).alloc (Nat.le_refl _) _).alloc (by simp) _).alloc (by simp; omega) _).trans (h4.mono (by simp; omega))
  have hs1 : Reads (w1.alloc (.cells #[.slice A n c, .int .i64 (at' : Int), .int .i64 e'] 34)) BB 1 A' ys.length (BS ys) := by
    refine Reads.alloc ?_ (by omega) _
    exact hrd1.keep fun q hq => h4.cell (by simp; omega)
  have hR1 := (HRD.out.below hb1).alloc (.cells #[.slice A n c, .int .i64 (at' : Int), .int .i64 e'] 34)
  have hx1 := Blk.new w1 34 #[.slice A n c, .int .i64 (at' : Int), .int .i64 e']
  have hr2 := hr1.alloc (.cells #[.slice A n c, .int .i64 (at' : Int), .int .i64 e'] 34)
  have hp2 := hp1.alloc (.cells #[.slice A n c, .int .i64 (at' : Int), .int .i64 e'] 34)
  have HB1 := Lib.hid hb1
  have HR1 := Lib.hid hR1
  have HX1 := Lib.hid hx1
  have HRB := Lib.hid hr2
  have HPB := Lib.hid hp2
  have HS1 := Lib.hid hs1
  have x0 : (w1.alloc (.cells #[.slice A n c, .int .i64 (at' : Int), .int .i64 e'] 34)).cell? ⟨w1.heap.size, 0, none⟩ = some (.slice A n c) := by rw [hx1.cell]; rfl
  have x1 : (w1.alloc (.cells #[.slice A n c, .int .i64 (at' : Int), .int .i64 e'] 34)).cell? ⟨w1.heap.size, 1, none⟩ = some (.int .i64 (at' : Int)) := by rw [hx1.cell]; rfl
  have x2 : (w1.alloc (.cells #[.slice A n c, .int .i64 (at' : Int), .int .i64 e'] 34)).cell? ⟨w1.heap.size, 2, none⟩ = some (.int .i64 e') := by rw [hx1.cell]; rfl
  have p1 : (w1.alloc (.cells #[.slice A n c, .int .i64 (at' : Int), .int .i64 e'] 34)).cell? ⟨w.heap.size + 1, 1, none⟩ = some (.int .i64 pn) := by rw [hp2.cell]; rfl
  have gx : g ≠ w1.heap.size := by omega
  clear h4 hp1 hr1 hb1 hR1 hx1 hr2 hp2 hs1 hrd1
  go_wp2_with fail
  go_region_held3 (fun w' => w'.cell? ⟨w1.heap.size, 0, none⟩ = some (.slice A n c) ∧ w'.cell? ⟨w1.heap.size, 1, none⟩ = some (.int .i64 (at' : Int)) ∧ w'.cell? ⟨w1.heap.size, 2, none⟩ = some (.int .i64 e') ∧ w'.cell? ⟨w.heap.size + 1, 1, none⟩ = some (.int .i64 pn))
    (first | go_keep | (exact KEEP1) | (exact KEEP1b) | (exact KEEP2 _ _ _))
    (first
     | (go_simp; go_at_call 25; refine (HP.out _ HR1.out.drew).mono ?_; rintro en w2 ⟨A2, c2', rfl, hs2, hst⟩
        have hz2 := hst.2.size
        have hx2 := hst.2.blk HX1.out (fun h => gx h.symm)
        have hr3 := hst.2.blk HRB.out (by omega)
        have hp3 := hst.2.blk HPB.out (by omega)
        have hs3 : Reads w2 BB 1 A' ys.length (BS ys) := HS1.out.keep fun q hq => hst.2.cell (by show _ < (w1.alloc _).heap.size; simp; omega) (by show ¬ q.block = g; omega)
        have KEEP1 : w2.cell? ⟨w1.heap.size, 0, none⟩ = some (.slice A n c) ∧ w2.cell? ⟨w1.heap.size, 1, none⟩ = some (.int .i64 (at' : Int)) ∧ w2.cell? ⟨w1.heap.size, 2, none⟩ = some (.int .i64 e') ∧ w2.cell? ⟨w.heap.size + 1, 1, none⟩ = some (.int .i64 pn) := ⟨by rw [hx2.cell]; rfl, by rw [hx2.cell]; rfl, by rw [hx2.cell]; rfl, by rw [hp3.cell]; rfl⟩)
     | (go_simp; go_at_call 11; first | refine (same_yes ys ys.length rfl _ _ _ _ _ _ _ hs2 hs3 hys).mono ?_ | refine (same_yes ys ys.length rfl _ _ _ _ _ _ _ hs2.drew hs3.drew hys).mono ?_
        rintro en w3 ⟨rfl, k, hk⟩
        have hc3 : ∀ p, w3.cell? p = w2.cell? p := fun p => by rw [hk]; rfl
        have KEEP1b : w3.cell? ⟨w1.heap.size, 0, none⟩ = some (.slice A n c) ∧ w3.cell? ⟨w1.heap.size, 1, none⟩ = some (.int .i64 (at' : Int)) ∧ w3.cell? ⟨w1.heap.size, 2, none⟩ = some (.int .i64 e') ∧ w3.cell? ⟨w.heap.size + 1, 1, none⟩ = some (.int .i64 pn) := ⟨(hc3 _).trans KEEP1.1, (hc3 _).trans KEEP1.2.1, (hc3 _).trans KEEP1.2.2.1, (hc3 _).trans KEEP1.2.2.2⟩
        have KEEP2 : ∀ u0 u1 u2, (((w3.setCell ⟨w.heap.size + 2, 0, none⟩ u0).setCell ⟨w.heap.size + 2, 1, none⟩ u1).setCell ⟨w.heap.size + 2, 2, none⟩ u2).cell? ⟨w1.heap.size, 0, none⟩ = some (.slice A n c) ∧ (((w3.setCell ⟨w.heap.size + 2, 0, none⟩ u0).setCell ⟨w.heap.size + 2, 1, none⟩ u1).setCell ⟨w.heap.size + 2, 2, none⟩ u2).cell? ⟨w1.heap.size, 1, none⟩ = some (.int .i64 (at' : Int)) ∧ (((w3.setCell ⟨w.heap.size + 2, 0, none⟩ u0).setCell ⟨w.heap.size + 2, 1, none⟩ u1).setCell ⟨w.heap.size + 2, 2, none⟩ u2).cell? ⟨w1.heap.size, 2, none⟩ = some (.int .i64 e') ∧ (((w3.setCell ⟨w.heap.size + 2, 0, none⟩ u0).setCell ⟨w.heap.size + 2, 1, none⟩ u1).setCell ⟨w.heap.size + 2, 2, none⟩ u2).cell? ⟨w.heap.size + 1, 1, none⟩ = some (.int .i64 pn) := fun u0 u1 u2 => ⟨(set3_other _ _ _ _ _ _ (by show w1.heap.size ≠ w.heap.size + 2; omega)).trans KEEP1b.1, (set3_other _ _ _ _ _ _ (by show w1.heap.size ≠ w.heap.size + 2; omega)).trans KEEP1b.2.1, (set3_other _ _ _ _ _ _ (by show w1.heap.size ≠ w.heap.size + 2; omega)).trans KEEP1b.2.2.1, (set3_other _ _ _ _ _ _ (by show w.heap.size + 1 ≠ w.heap.size + 2; omega)).trans KEEP1b.2.2.2⟩
        have hr4 : Blk w3 (w.heap.size + 2) 34 #[.slice none 0 0, .int .i64 0, .int .i64 0] := by rw [hk]; exact hr3
        have hst3 : RdStep base g v bs (at', e') (w1.alloc (.cells #[.slice A n c, .int .i64 (at' : Int), .int .i64 e'] 34)).drew w3 := by rw [hk]; exact ⟨hst.1, hst.2.drewN k⟩
        have c0 : w3.cell? ⟨w.heap.size + 2, 0, none⟩ = some (.slice none 0 0) := by rw [hr4.cell]; rfl
        have c1 : w3.cell? ⟨w.heap.size + 2, 1, none⟩ = some (.int .i64 0) := by rw [hr4.cell]; rfl
        have c2 : w3.cell? ⟨w.heap.size + 2, 2, none⟩ = some (.int .i64 0) := by rw [hr4.cell]; rfl
        have f0 := hr4.frozen 0
        have f1 := hr4.frozen 1
        have f2 := hr4.frozen 2
        have hz3 : w3.heap.size = w2.heap.size := by rw [hk]; rfl
        clear hk hc3))
  have HST := Lib.hid hst3
  clear hst hst3 hx2 hr3 hr4 hp3 KEEP1 KEEP1b KEEP2 x0 x1 x2 p1 hs2 hs3
  go_wp2_with fail
  refine bodyPost_ret (v := .tuple #[.agg #[.slice A n c, .int .i64 (at' : Int), .int .i64 e'], .bool true]) (by simp [results, Try.results15, go_sem, c0, c1, c2]) rfl ⟨rfl, ?_⟩
  exact step_end HRD.out HB1.out (((Fr.refl (fun i => i = g) w1).alloc _).drew) HST.out

end Go.Proofs.Ytnhibnjgdkpomaa
