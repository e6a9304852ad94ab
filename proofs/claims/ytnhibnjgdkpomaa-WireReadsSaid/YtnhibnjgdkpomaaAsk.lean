/-
  What a Reader and the document's reader are asked alike: they tell the same, and stand alike.
-/
import Derived.Test.YtnhibnjgdkpomaaRefSt
import Derived.Test.YtnhibnjgdkpomaaHelp
import Derived.Deep.RegionHeld3
import Derived.Deep.DrawnRows
namespace Go.Proofs.Ytnhibnjgdkpomaa
open Go.RowKit Plain
set_option linter.unusedVariables false
set_option linter.unusedSimpArgs false
attribute [local go_sem ↓] Go.wp_at_zero Go.wp_at_succ

theorem Rd.drew {w : World} {base g at_ : Nat} {v : Value} {bs : List Nat} {e : Int} (h : Rd w base g v bs at_ e) : Rd w.drew base g v bs at_ e := h

theorem set3_other (w : World) (b : Nat) (q : Addr) (u0 u1 u2 : Value) (h : q.block ≠ b) : (((w.setCell ⟨b, 0, none⟩ u0).setCell ⟨b, 1, none⟩ u1).setCell ⟨b, 2, none⟩ u2).cell? q = w.cell? q :=
  World.cell?_of_block (by rw [heap_setCell_other _ _ _ _ h, heap_setCell_other _ _ _ _ h, heap_setCell_other _ _ _ _ h])
/-- Behind the three stores of an answer. -/
theorem step_end {w w1 wa w2 : World} {base g at_ at' : Nat} {v : Value} {bs : List Nat} {e e' : Int} {u0 u1 u2 : Value} (hR : Rd w base g v bs at_ e) (hb : Below w.heap.size w w1) (ha : Fr (fun i => i = g) w1 wa) (hst : RdStep base g v bs (at', e') wa w2) :
    RdStep base g v bs (at', e') w (((w2.setCell ⟨w.heap.size + 2, 0, none⟩ u0).setCell ⟨w.heap.size + 2, 1, none⟩ u1).setCell ⟨w.heap.size + 2, 2, none⟩ u2) := by
  have hg := hR.lt
  refine ⟨hst.1.fr (S := fun i => i = w.heap.size + 2) ((((Fr.refl (fun i => i = w.heap.size + 2) w2).setCell (p := ⟨w.heap.size + 2, 0, none⟩) (.inl rfl) _).setCell (p := ⟨w.heap.size + 2, 1, none⟩) (.inl rfl) _).setCell (p := ⟨w.heap.size + 2, 2, none⟩) (.inl rfl) _) (by omega) (fun i hi => by have := (hR.2.1.lt i hi).2; omega), ?_⟩
  have h1 : Fr (fun i => i = g) w w1 := (Fr.of_below hb).mono (fun i hi h => by omega)
  exact ((((h1.trans ha (fun i hi h => h)).trans hst.2 (fun i hi h => h)).setCell (p := ⟨w.heap.size + 2, 0, none⟩) (.inr (by show w.heap.size ≤ w.heap.size + 2; omega)) _).setCell (p := ⟨w.heap.size + 2, 1, none⟩) (.inr (by show w.heap.size ≤ w.heap.size + 2; omega)) _).setCell (p := ⟨w.heap.size + 2, 2, none⟩) (.inr (by show w.heap.size ≤ w.heap.size + 2; omega)) _

/-- What the document's call leaves: the reader at at', with e', and what it told. -/
def RefTells (f : FuncId) (args : Array Value) (A : Option Addr) (n c at' : Nat) (e' : Int) (val : Value) (BB : Nat) (bs : List Nat) : Prop :=
  ∀ W : World, Reads W BB 1 A n (BS bs) → BB ≤ W.heap.size → Calls Try.prog f args W fun en w' => en = .returned (.tuple #[.agg #[.slice A n c, .int .i64 (at' : Int), .int .i64 e'], val]) ∧ Below W.heap.size W w'
/-- What the program's call leaves. -/
def RdTells (f : FuncId) (args : Array Value) (base g : Nat) (v : Value) (bs : List Nat) (at_ : Nat) (e : Int) (at' : Nat) (e' : Int) (val : Value) : Prop :=
  ∀ W : World, Rd W base g v bs at_ e → Calls Try.prog f (#[.pointer (some ⟨g, 0, none⟩)] ++ args) W fun en w' => en = .returned val ∧ RdStep base g v bs (at', e') W w'
/-- What a question leaves. -/
def Asked (A : Option Addr) (n c : Nat) (base g : Nat) (v : Value) (bs : List Nat) (at' : Nat) (e' : Int) (w : World) (en : Ending) (w' : World) : Prop :=
  en = .returned (.tuple #[.agg #[.slice A n c, .int .i64 (at' : Int), .int .i64 e'], .bool true]) ∧ RdStep base g v bs (at', e') w w'

set_option maxRecDepth 100000 in
set_option maxHeartbeats 4000000 in
theorem ask_short (bs : List Nat) (n c at_ at' : Nat) (A : Option Addr) (e e' : Int) (pn pv : Int) (ps : ByteArray) (base g : Nat) (v : Value) (w : World) (BB : Nat) (x : Int)
    (hr : Reads w BB 1 A n (BS bs)) (hB : BB ≤ w.heap.size) (hBg : BB ≤ g) (hR : Rd w base g v bs at_ e)
    (href : RefTells 41 #[.agg #[.slice A n c, .int .i64 (at_ : Int), .int .i64 e]] A n c at' e' (.int .i64 x) BB bs)
    (hrd : RdTells 22 #[] base g v bs at_ e at' e' (.int .i64 x)) :
    Calls Try.prog 15 #[.pointer (some ⟨g, 0, none⟩), .agg #[.slice A n c, .int .i64 (at_ : Int), .int .i64 e], .agg #[.int .i64 1, .int .i64 pn, .int .i64 pv, .string ps]] w (Asked A n c base g v bs at' e' w) := by
  have HR := Lib.hid hr
  have HRD := Lib.hid hR
  have HREF := Lib.hid href
  have HP := Lib.hid hrd
  have hg := hR.lt
  clear hr hR href hrd
  go_enter Try.func15, Try.ntmps15
  go_wp2_with fail
  refine (HREF.out _ (((HR.out.alloc hB _).alloc (by simp; omega) _).alloc (by simp; omega) _) (by simp; omega)).mono ?_
  rintro en w1 ⟨rfl, h4⟩
  have z1 : w.heap.size + 2 < w1.heap.size := by have := h4.size; simp at this; omega
  have hp1 : Blk w1 (w.heap.size + 1) 38 #[.int .i64 1, .int .i64 pn, .int .i64 pv, .string ps] := by
    refine Blk.below ?_ h4 (by simp)
    refine Blk.alloc ?_ _
    have := Blk.new (w.alloc (.cells #[.slice A n c, .int .i64 (at_ : Int), .int .i64 e] 34)) 38 #[.int .i64 1, .int .i64 pn, .int .i64 pv, .string ps]
    simpa using this
  have hr1 : Blk w1 (w.heap.size + 2) 34 #[.slice none 0 0, .int .i64 0, .int .i64 0] := by
    refine Blk.below ?_ h4 (by simp)
    have := Blk.new ((w.alloc (.cells #[.slice A n c, .int .i64 (at_ : Int), .int .i64 e] 34)).alloc (.cells #[.int .i64 1, .int .i64 pn, .int .i64 pv, .string ps] 38)) 34 #[.slice none 0 0, .int .i64 0, .int .i64 0]
    simpa using this
  have hb1 : Below w.heap.size w w1 := ((((Below.refl _ w).alloc (Nat.le_refl _) _).alloc (by simp) _).alloc (by simp; omega) _).trans (h4.mono (by simp; omega))
  have hR1 := (HRD.out.below hb1).alloc (.cells #[.slice A n c, .int .i64 (at' : Int), .int .i64 e'] 34)
  have hx1 := Blk.new w1 34 #[.slice A n c, .int .i64 (at' : Int), .int .i64 e']
  have hr2 := hr1.alloc (.cells #[.slice A n c, .int .i64 (at' : Int), .int .i64 e'] 34)
  have hp2 := hp1.alloc (.cells #[.slice A n c, .int .i64 (at' : Int), .int .i64 e'] 34)
  have HB1 := Lib.hid hb1
  have HR1 := Lib.hid hR1
  have HX1 := Lib.hid hx1
  have HRB := Lib.hid hr2
  have HPB := Lib.hid hp2
  have x0 : (w1.alloc (.cells #[.slice A n c, .int .i64 (at' : Int), .int .i64 e'] 34)).cell? ⟨w1.heap.size, 0, none⟩ = some (.slice A n c) := by rw [hx1.cell]; rfl
  have x1 : (w1.alloc (.cells #[.slice A n c, .int .i64 (at' : Int), .int .i64 e'] 34)).cell? ⟨w1.heap.size, 1, none⟩ = some (.int .i64 (at' : Int)) := by rw [hx1.cell]; rfl
  have x2 : (w1.alloc (.cells #[.slice A n c, .int .i64 (at' : Int), .int .i64 e'] 34)).cell? ⟨w1.heap.size, 2, none⟩ = some (.int .i64 e') := by rw [hx1.cell]; rfl
  have p1 : (w1.alloc (.cells #[.slice A n c, .int .i64 (at' : Int), .int .i64 e'] 34)).cell? ⟨w.heap.size + 1, 1, none⟩ = some (.int .i64 pn) := by rw [hp2.cell]; rfl
  have p2 : (w1.alloc (.cells #[.slice A n c, .int .i64 (at' : Int), .int .i64 e'] 34)).cell? ⟨w.heap.size + 1, 2, none⟩ = some (.int .i64 pv) := by rw [hp2.cell]; rfl
  have gx : g ≠ w1.heap.size := by omega
  clear h4 hp1 hr1 hb1 hR1 hx1 hr2 hp2
  go_wp2_with fail
  go_region_held3 (fun w' => w'.cell? ⟨w1.heap.size, 0, none⟩ = some (.slice A n c) ∧ w'.cell? ⟨w1.heap.size, 1, none⟩ = some (.int .i64 (at' : Int)) ∧ w'.cell? ⟨w1.heap.size, 2, none⟩ = some (.int .i64 e'))
    (first | go_keep | (exact KEEP1) | (exact KEEP2 _ _ _))
    ((go_simp; go_at_call 22; refine (HP.out _ HR1.out.drew).mono ?_; rintro en w2 ⟨rfl, hst⟩
      have hz2 := hst.2.size
      have hx2 := hst.2.blk HX1.out (fun h => gx h.symm)
      have hr3 := hst.2.blk HRB.out (by omega)
      have hp3 := hst.2.blk HPB.out (by omega)
      have KEEP1 : w2.cell? ⟨w1.heap.size, 0, none⟩ = some (.slice A n c) ∧ w2.cell? ⟨w1.heap.size, 1, none⟩ = some (.int .i64 (at' : Int)) ∧ w2.cell? ⟨w1.heap.size, 2, none⟩ = some (.int .i64 e') := ⟨by rw [hx2.cell]; rfl, by rw [hx2.cell]; rfl, by rw [hx2.cell]; rfl⟩
      have KEEP2 : ∀ u0 u1 u2, (((w2.setCell ⟨w.heap.size + 2, 0, none⟩ u0).setCell ⟨w.heap.size + 2, 1, none⟩ u1).setCell ⟨w.heap.size + 2, 2, none⟩ u2).cell? ⟨w1.heap.size, 0, none⟩ = some (.slice A n c) ∧ (((w2.setCell ⟨w.heap.size + 2, 0, none⟩ u0).setCell ⟨w.heap.size + 2, 1, none⟩ u1).setCell ⟨w.heap.size + 2, 2, none⟩ u2).cell? ⟨w1.heap.size, 1, none⟩ = some (.int .i64 (at' : Int)) ∧ (((w2.setCell ⟨w.heap.size + 2, 0, none⟩ u0).setCell ⟨w.heap.size + 2, 1, none⟩ u1).setCell ⟨w.heap.size + 2, 2, none⟩ u2).cell? ⟨w1.heap.size, 2, none⟩ = some (.int .i64 e') := fun u0 u1 u2 => ⟨(set3_other _ _ _ _ _ _ (by show w1.heap.size ≠ w.heap.size + 2; omega)).trans KEEP1.1, (set3_other _ _ _ _ _ _ (by show w1.heap.size ≠ w.heap.size + 2; omega)).trans KEEP1.2.1, (set3_other _ _ _ _ _ _ (by show w1.heap.size ≠ w.heap.size + 2; omega)).trans KEEP1.2.2⟩
      have c0 : w2.cell? ⟨w.heap.size + 2, 0, none⟩ = some (.slice none 0 0) := by rw [hr3.cell]; rfl
      have c1 : w2.cell? ⟨w.heap.size + 2, 1, none⟩ = some (.int .i64 0) := by rw [hr3.cell]; rfl
      have c2 : w2.cell? ⟨w.heap.size + 2, 2, none⟩ = some (.int .i64 0) := by rw [hr3.cell]; rfl
      have f0 := hr3.frozen 0
      have f1 := hr3.frozen 1
      have f2 := hr3.frozen 2))
  have HST := Lib.hid hst
  clear hst hx2 hr3 hp3 KEEP1 KEEP2 x0 x1 x2 p1 p2
  go_wp2_with fail
  refine bodyPost_ret (v := .tuple #[.agg #[.slice A n c, .int .i64 (at' : Int), .int .i64 e'], .bool true]) (by simp [results, Try.results15, go_sem, c0, c1, c2]) rfl ⟨rfl, ?_⟩
  exact step_end HRD.out HB1.out (((Fr.refl (fun i => i = g) w1).alloc _).drew) HST.out

set_option maxRecDepth 100000 in
set_option maxHeartbeats 4000000 in
theorem ask_signed (bs : List Nat) (n c at_ at' : Nat) (A : Option Addr) (e e' : Int) (pn pv : Int) (ps : ByteArray) (base g : Nat) (v : Value) (w : World) (BB : Nat) (x : Int)
    (hr : Reads w BB 1 A n (BS bs)) (hB : BB ≤ w.heap.size) (hBg : BB ≤ g) (hR : Rd w base g v bs at_ e)
    (href : RefTells 42 #[.agg #[.slice A n c, .int .i64 (at_ : Int), .int .i64 e]] A n c at' e' (.int .i64 x) BB bs)
    (hrd : RdTells 23 #[] base g v bs at_ e at' e' (.int .i64 x)) :
    Calls Try.prog 15 #[.pointer (some ⟨g, 0, none⟩), .agg #[.slice A n c, .int .i64 (at_ : Int), .int .i64 e], .agg #[.int .i64 2, .int .i64 pn, .int .i64 pv, .string ps]] w (Asked A n c base g v bs at' e' w) := by
  have HR := Lib.hid hr
  have HRD := Lib.hid hR
  have HREF := Lib.hid href
  have HP := Lib.hid hrd
  have hg := hR.lt
  clear hr hR href hrd
  go_enter Try.func15, Try.ntmps15
  go_wp2_with fail
  refine (HREF.out _ (((HR.out.alloc hB _).alloc (by simp; omega) _).alloc (by simp; omega) _) (by simp; omega)).mono ?_
  rintro en w1 ⟨rfl, h4⟩
  have z1 : w.heap.size + 2 < w1.heap.size := by have := h4.size; simp at this; omega
  have hp1 : Blk w1 (w.heap.size + 1) 38 #[.int .i64 2, .int .i64 pn, .int .i64 pv, .string ps] := by
    refine Blk.below ?_ h4 (by simp)
    refine Blk.alloc ?_ _
    have := Blk.new (w.alloc (.cells #[.slice A n c, .int .i64 (at_ : Int), .int .i64 e] 34)) 38 #[.int .i64 2, .int .i64 pn, .int .i64 pv, .string ps]
    simpa using this
  have hr1 : Blk w1 (w.heap.size + 2) 34 #[.slice none 0 0, .int .i64 0, .int .i64 0] := by
    refine Blk.below ?_ h4 (by simp)
    have := Blk.new ((w.alloc (.cells #[.slice A n c, .int .i64 (at_ : Int), .int .i64 e] 34)).alloc (.cells #[.int .i64 2, .int .i64 pn, .int .i64 pv, .string ps] 38)) 34 #[.slice none 0 0, .int .i64 0, .int .i64 0]
    simpa using this
  have hb1 : Below w.heap.size w w1 := ((((Below.refl _ w).alloc (Nat.le_refl _) _).alloc (by simp) _).alloc (by simp; omega) _).trans (h4.mono (by simp; omega))
  have hR1 := (HRD.out.below hb1).alloc (.cells #[.slice A n c, .int .i64 (at' : Int), .int .i64 e'] 34)
  have hx1 := Blk.new w1 34 #[.slice A n c, .int .i64 (at' : Int), .int .i64 e']
  have hr2 := hr1.alloc (.cells #[.slice A n c, .int .i64 (at' : Int), .int .i64 e'] 34)
  have hp2 := hp1.alloc (.cells #[.slice A n c, .int .i64 (at' : Int), .int .i64 e'] 34)
  have HB1 := Lib.hid hb1
  have HR1 := Lib.hid hR1
  have HX1 := Lib.hid hx1
  have HRB := Lib.hid hr2
  have HPB := Lib.hid hp2
  have x0 : (w1.alloc (.cells #[.slice A n c, .int .i64 (at' : Int), .int .i64 e'] 34)).cell? ⟨w1.heap.size, 0, none⟩ = some (.slice A n c) := by rw [hx1.cell]; rfl
  have x1 : (w1.alloc (.cells #[.slice A n c, .int .i64 (at' : Int), .int .i64 e'] 34)).cell? ⟨w1.heap.size, 1, none⟩ = some (.int .i64 (at' : Int)) := by rw [hx1.cell]; rfl
  have x2 : (w1.alloc (.cells #[.slice A n c, .int .i64 (at' : Int), .int .i64 e'] 34)).cell? ⟨w1.heap.size, 2, none⟩ = some (.int .i64 e') := by rw [hx1.cell]; rfl
  have p1 : (w1.alloc (.cells #[.slice A n c, .int .i64 (at' : Int), .int .i64 e'] 34)).cell? ⟨w.heap.size + 1, 1, none⟩ = some (.int .i64 pn) := by rw [hp2.cell]; rfl
  have p2 : (w1.alloc (.cells #[.slice A n c, .int .i64 (at' : Int), .int .i64 e'] 34)).cell? ⟨w.heap.size + 1, 2, none⟩ = some (.int .i64 pv) := by rw [hp2.cell]; rfl
  have gx : g ≠ w1.heap.size := by omega
  clear h4 hp1 hr1 hb1 hR1 hx1 hr2 hp2
  go_wp2_with fail
  go_region_held3 (fun w' => w'.cell? ⟨w1.heap.size, 0, none⟩ = some (.slice A n c) ∧ w'.cell? ⟨w1.heap.size, 1, none⟩ = some (.int .i64 (at' : Int)) ∧ w'.cell? ⟨w1.heap.size, 2, none⟩ = some (.int .i64 e'))
    (first | go_keep | (exact KEEP1) | (exact KEEP2 _ _ _))
    ((go_simp; go_at_call 23; refine (HP.out _ HR1.out.drew).mono ?_; rintro en w2 ⟨rfl, hst⟩
      have hz2 := hst.2.size
      have hx2 := hst.2.blk HX1.out (fun h => gx h.symm)
      have hr3 := hst.2.blk HRB.out (by omega)
      have hp3 := hst.2.blk HPB.out (by omega)
      have KEEP1 : w2.cell? ⟨w1.heap.size, 0, none⟩ = some (.slice A n c) ∧ w2.cell? ⟨w1.heap.size, 1, none⟩ = some (.int .i64 (at' : Int)) ∧ w2.cell? ⟨w1.heap.size, 2, none⟩ = some (.int .i64 e') := ⟨by rw [hx2.cell]; rfl, by rw [hx2.cell]; rfl, by rw [hx2.cell]; rfl⟩
      have KEEP2 : ∀ u0 u1 u2, (((w2.setCell ⟨w.heap.size + 2, 0, none⟩ u0).setCell ⟨w.heap.size + 2, 1, none⟩ u1).setCell ⟨w.heap.size + 2, 2, none⟩ u2).cell? ⟨w1.heap.size, 0, none⟩ = some (.slice A n c) ∧ (((w2.setCell ⟨w.heap.size + 2, 0, none⟩ u0).setCell ⟨w.heap.size + 2, 1, none⟩ u1).setCell ⟨w.heap.size + 2, 2, none⟩ u2).cell? ⟨w1.heap.size, 1, none⟩ = some (.int .i64 (at' : Int)) ∧ (((w2.setCell ⟨w.heap.size + 2, 0, none⟩ u0).setCell ⟨w.heap.size + 2, 1, none⟩ u1).setCell ⟨w.heap.size + 2, 2, none⟩ u2).cell? ⟨w1.heap.size, 2, none⟩ = some (.int .i64 e') := fun u0 u1 u2 => ⟨(set3_other _ _ _ _ _ _ (by show w1.heap.size ≠ w.heap.size + 2; omega)).trans KEEP1.1, (set3_other _ _ _ _ _ _ (by show w1.heap.size ≠ w.heap.size + 2; omega)).trans KEEP1.2.1, (set3_other _ _ _ _ _ _ (by show w1.heap.size ≠ w.heap.size + 2; omega)).trans KEEP1.2.2⟩
      have c0 : w2.cell? ⟨w.heap.size + 2, 0, none⟩ = some (.slice none 0 0) := by rw [hr3.cell]; rfl
      have c1 : w2.cell? ⟨w.heap.size + 2, 1, none⟩ = some (.int .i64 0) := by rw [hr3.cell]; rfl
      have c2 : w2.cell? ⟨w.heap.size + 2, 2, none⟩ = some (.int .i64 0) := by rw [hr3.cell]; rfl
      have f0 := hr3.frozen 0
      have f1 := hr3.frozen 1
      have f2 := hr3.frozen 2))
  have HST := Lib.hid hst
  clear hst hx2 hr3 hp3 KEEP1 KEEP2 x0 x1 x2 p1 p2
  go_wp2_with fail
  refine bodyPost_ret (v := .tuple #[.agg #[.slice A n c, .int .i64 (at' : Int), .int .i64 e'], .bool true]) (by simp [results, Try.results15, go_sem, c0, c1, c2]) rfl ⟨rfl, ?_⟩
  exact step_end HRD.out HB1.out (((Fr.refl (fun i => i = g) w1).alloc _).drew) HST.out

set_option maxRecDepth 100000 in
set_option maxHeartbeats 4000000 in
theorem ask_text (bs : List Nat) (n c at_ at' : Nat) (A : Option Addr) (e e' : Int) (pn pv : Int) (ps : ByteArray) (base g : Nat) (v : Value) (w : World) (BB : Nat) (x : ByteArray)
    (hr : Reads w BB 1 A n (BS bs)) (hB : BB ≤ w.heap.size) (hBg : BB ≤ g) (hR : Rd w base g v bs at_ e)
    (href : RefTells 43 #[.agg #[.slice A n c, .int .i64 (at_ : Int), .int .i64 e]] A n c at' e' (.string x) BB bs)
    (hrd : RdTells 24 #[] base g v bs at_ e at' e' (.string x)) :
    Calls Try.prog 15 #[.pointer (some ⟨g, 0, none⟩), .agg #[.slice A n c, .int .i64 (at_ : Int), .int .i64 e], .agg #[.int .i64 3, .int .i64 pn, .int .i64 pv, .string ps]] w (Asked A n c base g v bs at' e' w) := by
  have HR := Lib.hid hr
  have HRD := Lib.hid hR
  have HREF := Lib.hid href
  have HP := Lib.hid hrd
  have hg := hR.lt
  clear hr hR href hrd
  go_enter Try.func15, Try.ntmps15
  go_wp2_with fail
  refine (HREF.out _ (((HR.out.alloc hB _).alloc (by simp; omega) _).alloc (by simp; omega) _) (by simp; omega)).mono ?_
  rintro en w1 ⟨rfl, h4⟩
  have z1 : w.heap.size + 2 < w1.heap.size := by have := h4.size; simp at this; omega
  have hp1 : Blk w1 (w.heap.size + 1) 38 #[.int .i64 3, .int .i64 pn, .int .i64 pv, .string ps] := by
    refine Blk.below ?_ h4 (by simp)
    refine Blk.alloc ?_ _
    have := Blk.new (w.alloc (.cells #[.slice A n c, .int .i64 (at_ : Int), .int .i64 e] 34)) 38 #[.int .i64 3, .int .i64 pn, .int .i64 pv, .string ps]
    simpa using this
  have hr1 : Blk w1 (w.heap.size + 2) 34 #[.slice none 0 0, .int .i64 0, .int .i64 0] := by
    refine Blk.below ?_ h4 (by simp)
    have := Blk.new ((w.alloc (.cells #[.slice A n c, .int .i64 (at_ : Int), .int .i64 e] 34)).alloc (.cells #[.int .i64 3, .int .i64 pn, .int .i64 pv, .string ps] 38)) 34 #[.slice none 0 0, .int .i64 0, .int .i64 0]
    simpa using this
  have hb1 : Below w.heap.size w w1 := ((((Below.refl _ w).alloc (Nat.le_refl _) _).alloc (by simp) _).alloc (by simp; omega) _).trans (h4.mono (by simp; omega))
  have hR1 := (HRD.out.below hb1).alloc (.cells #[.slice A n c, .int .i64 (at' : Int), .int .i64 e'] 34)
  have hx1 := Blk.new w1 34 #[.slice A n c, .int .i64 (at' : Int), .int .i64 e']
  have hr2 := hr1.alloc (.cells #[.slice A n c, .int .i64 (at' : Int), .int .i64 e'] 34)
  have hp2 := hp1.alloc (.cells #[.slice A n c, .int .i64 (at' : Int), .int .i64 e'] 34)
  have HB1 := Lib.hid hb1
  have HR1 := Lib.hid hR1
  have HX1 := Lib.hid hx1
  have HRB := Lib.hid hr2
  have HPB := Lib.hid hp2
  have x0 : (w1.alloc (.cells #[.slice A n c, .int .i64 (at' : Int), .int .i64 e'] 34)).cell? ⟨w1.heap.size, 0, none⟩ = some (.slice A n c) := by rw [hx1.cell]; rfl
  have x1 : (w1.alloc (.cells #[.slice A n c, .int .i64 (at' : Int), .int .i64 e'] 34)).cell? ⟨w1.heap.size, 1, none⟩ = some (.int .i64 (at' : Int)) := by rw [hx1.cell]; rfl
  have x2 : (w1.alloc (.cells #[.slice A n c, .int .i64 (at' : Int), .int .i64 e'] 34)).cell? ⟨w1.heap.size, 2, none⟩ = some (.int .i64 e') := by rw [hx1.cell]; rfl
  have p1 : (w1.alloc (.cells #[.slice A n c, .int .i64 (at' : Int), .int .i64 e'] 34)).cell? ⟨w.heap.size + 1, 1, none⟩ = some (.int .i64 pn) := by rw [hp2.cell]; rfl
  have p2 : (w1.alloc (.cells #[.slice A n c, .int .i64 (at' : Int), .int .i64 e'] 34)).cell? ⟨w.heap.size + 1, 2, none⟩ = some (.int .i64 pv) := by rw [hp2.cell]; rfl
  have gx : g ≠ w1.heap.size := by omega
  clear h4 hp1 hr1 hb1 hR1 hx1 hr2 hp2
  go_wp2_with fail
  go_region_held3 (fun w' => w'.cell? ⟨w1.heap.size, 0, none⟩ = some (.slice A n c) ∧ w'.cell? ⟨w1.heap.size, 1, none⟩ = some (.int .i64 (at' : Int)) ∧ w'.cell? ⟨w1.heap.size, 2, none⟩ = some (.int .i64 e'))
    (first | go_keep | (exact KEEP1) | (exact KEEP2 _ _ _))
    ((go_simp; go_at_call 24; refine (HP.out _ HR1.out.drew).mono ?_; rintro en w2 ⟨rfl, hst⟩
      have hz2 := hst.2.size
      have hx2 := hst.2.blk HX1.out (fun h => gx h.symm)
      have hr3 := hst.2.blk HRB.out (by omega)
      have hp3 := hst.2.blk HPB.out (by omega)
      have KEEP1 : w2.cell? ⟨w1.heap.size, 0, none⟩ = some (.slice A n c) ∧ w2.cell? ⟨w1.heap.size, 1, none⟩ = some (.int .i64 (at' : Int)) ∧ w2.cell? ⟨w1.heap.size, 2, none⟩ = some (.int .i64 e') := ⟨by rw [hx2.cell]; rfl, by rw [hx2.cell]; rfl, by rw [hx2.cell]; rfl⟩
      have KEEP2 : ∀ u0 u1 u2, (((w2.setCell ⟨w.heap.size + 2, 0, none⟩ u0).setCell ⟨w.heap.size + 2, 1, none⟩ u1).setCell ⟨w.heap.size + 2, 2, none⟩ u2).cell? ⟨w1.heap.size, 0, none⟩ = some (.slice A n c) ∧ (((w2.setCell ⟨w.heap.size + 2, 0, none⟩ u0).setCell ⟨w.heap.size + 2, 1, none⟩ u1).setCell ⟨w.heap.size + 2, 2, none⟩ u2).cell? ⟨w1.heap.size, 1, none⟩ = some (.int .i64 (at' : Int)) ∧ (((w2.setCell ⟨w.heap.size + 2, 0, none⟩ u0).setCell ⟨w.heap.size + 2, 1, none⟩ u1).setCell ⟨w.heap.size + 2, 2, none⟩ u2).cell? ⟨w1.heap.size, 2, none⟩ = some (.int .i64 e') := fun u0 u1 u2 => ⟨(set3_other _ _ _ _ _ _ (by show w1.heap.size ≠ w.heap.size + 2; omega)).trans KEEP1.1, (set3_other _ _ _ _ _ _ (by show w1.heap.size ≠ w.heap.size + 2; omega)).trans KEEP1.2.1, (set3_other _ _ _ _ _ _ (by show w1.heap.size ≠ w.heap.size + 2; omega)).trans KEEP1.2.2⟩
      have c0 : w2.cell? ⟨w.heap.size + 2, 0, none⟩ = some (.slice none 0 0) := by rw [hr3.cell]; rfl
      have c1 : w2.cell? ⟨w.heap.size + 2, 1, none⟩ = some (.int .i64 0) := by rw [hr3.cell]; rfl
      have c2 : w2.cell? ⟨w.heap.size + 2, 2, none⟩ = some (.int .i64 0) := by rw [hr3.cell]; rfl
      have f0 := hr3.frozen 0
      have f1 := hr3.frozen 1
      have f2 := hr3.frozen 2))
  have HST := Lib.hid hst
  clear hst hx2 hr3 hp3 KEEP1 KEEP2 x0 x1 x2 p1 p2
  go_wp2_with fail
  refine bodyPost_ret (v := .tuple #[.agg #[.slice A n c, .int .i64 (at' : Int), .int .i64 e'], .bool true]) (by simp [results, Try.results15, go_sem, c0, c1, c2]) rfl ⟨rfl, ?_⟩
  exact step_end HRD.out HB1.out (((Fr.refl (fun i => i = g) w1).alloc _).drew) HST.out

set_option maxRecDepth 100000 in
set_option maxHeartbeats 4000000 in
theorem ask_list (bs : List Nat) (n c at_ at' : Nat) (A : Option Addr) (e e' : Int) (pn pv : Int) (ps : ByteArray) (base g : Nat) (v : Value) (w : World) (BB : Nat) (x : Int)
    (hr : Reads w BB 1 A n (BS bs)) (hB : BB ≤ w.heap.size) (hBg : BB ≤ g) (hR : Rd w base g v bs at_ e)
    (href : RefTells 44 #[.agg #[.slice A n c, .int .i64 (at_ : Int), .int .i64 e], .int .i64 pv] A n c at' e' (.int .i64 x) BB bs)
    (hrd : RdTells 29 #[.int .i64 pv] base g v bs at_ e at' e' (.int .i64 x)) :
    Calls Try.prog 15 #[.pointer (some ⟨g, 0, none⟩), .agg #[.slice A n c, .int .i64 (at_ : Int), .int .i64 e], .agg #[.int .i64 4, .int .i64 pn, .int .i64 pv, .string ps]] w (Asked A n c base g v bs at' e' w) := by
  have HR := Lib.hid hr
  have HRD := Lib.hid hR
  have HREF := Lib.hid href
  have HP := Lib.hid hrd
  have hg := hR.lt
  clear hr hR href hrd
  go_enter Try.func15, Try.ntmps15
  go_wp2_with fail
  refine (HREF.out _ (((HR.out.alloc hB _).alloc (by simp; omega) _).alloc (by simp; omega) _) (by simp; omega)).mono ?_
  rintro en w1 ⟨rfl, h4⟩
  have z1 : w.heap.size + 2 < w1.heap.size := by have := h4.size; simp at this; omega
  have hp1 : Blk w1 (w.heap.size + 1) 38 #[.int .i64 4, .int .i64 pn, .int .i64 pv, .string ps] := by
    refine Blk.below ?_ h4 (by simp)
    refine Blk.alloc ?_ _
    have := Blk.new (w.alloc (.cells #[.slice A n c, .int .i64 (at_ : Int), .int .i64 e] 34)) 38 #[.int .i64 4, .int .i64 pn, .int .i64 pv, .string ps]
    simpa using this
  have hr1 : Blk w1 (w.heap.size + 2) 34 #[.slice none 0 0, .int .i64 0, .int .i64 0] := by
    refine Blk.below ?_ h4 (by simp)
    have := Blk.new ((w.alloc (.cells #[.slice A n c, .int .i64 (at_ : Int), .int .i64 e] 34)).alloc (.cells #[.int .i64 4, .int .i64 pn, .int .i64 pv, .string ps] 38)) 34 #[.slice none 0 0, .int .i64 0, .int .i64 0]
    simpa using this
  have hb1 : Below w.heap.size w w1 := ((((Below.refl _ w).alloc (Nat.le_refl _) _).alloc (by simp) _).alloc (by simp; omega) _).trans (h4.mono (by simp; omega))
  have hR1 := (HRD.out.below hb1).alloc (.cells #[.slice A n c, .int .i64 (at' : Int), .int .i64 e'] 34)
  have hx1 := Blk.new w1 34 #[.slice A n c, .int .i64 (at' : Int), .int .i64 e']
  have hr2 := hr1.alloc (.cells #[.slice A n c, .int .i64 (at' : Int), .int .i64 e'] 34)
  have hp2 := hp1.alloc (.cells #[.slice A n c, .int .i64 (at' : Int), .int .i64 e'] 34)
  have HB1 := Lib.hid hb1
  have HR1 := Lib.hid hR1
  have HX1 := Lib.hid hx1
  have HRB := Lib.hid hr2
  have HPB := Lib.hid hp2
  have x0 : (w1.alloc (.cells #[.slice A n c, .int .i64 (at' : Int), .int .i64 e'] 34)).cell? ⟨w1.heap.size, 0, none⟩ = some (.slice A n c) := by rw [hx1.cell]; rfl
  have x1 : (w1.alloc (.cells #[.slice A n c, .int .i64 (at' : Int), .int .i64 e'] 34)).cell? ⟨w1.heap.size, 1, none⟩ = some (.int .i64 (at' : Int)) := by rw [hx1.cell]; rfl
  have x2 : (w1.alloc (.cells #[.slice A n c, .int .i64 (at' : Int), .int .i64 e'] 34)).cell? ⟨w1.heap.size, 2, none⟩ = some (.int .i64 e') := by rw [hx1.cell]; rfl
  have p1 : (w1.alloc (.cells #[.slice A n c, .int .i64 (at' : Int), .int .i64 e'] 34)).cell? ⟨w.heap.size + 1, 1, none⟩ = some (.int .i64 pn) := by rw [hp2.cell]; rfl
  have p2 : (w1.alloc (.cells #[.slice A n c, .int .i64 (at' : Int), .int .i64 e'] 34)).cell? ⟨w.heap.size + 1, 2, none⟩ = some (.int .i64 pv) := by rw [hp2.cell]; rfl
  have gx : g ≠ w1.heap.size := by omega
  clear h4 hp1 hr1 hb1 hR1 hx1 hr2 hp2
  go_wp2_with fail
  go_region_held3 (fun w' => w'.cell? ⟨w1.heap.size, 0, none⟩ = some (.slice A n c) ∧ w'.cell? ⟨w1.heap.size, 1, none⟩ = some (.int .i64 (at' : Int)) ∧ w'.cell? ⟨w1.heap.size, 2, none⟩ = some (.int .i64 e') ∧ w'.cell? ⟨w.heap.size + 1, 2, none⟩ = some (.int .i64 pv))
    (first | go_keep | (exact KEEP1) | (exact KEEP2 _ _ _))
    ((go_simp; go_at_call 29; refine (HP.out _ HR1.out.drew).mono ?_; rintro en w2 ⟨rfl, hst⟩
      have hz2 := hst.2.size
      have hx2 := hst.2.blk HX1.out (fun h => gx h.symm)
      have hr3 := hst.2.blk HRB.out (by omega)
      have hp3 := hst.2.blk HPB.out (by omega)
      have KEEP1 : w2.cell? ⟨w1.heap.size, 0, none⟩ = some (.slice A n c) ∧ w2.cell? ⟨w1.heap.size, 1, none⟩ = some (.int .i64 (at' : Int)) ∧ w2.cell? ⟨w1.heap.size, 2, none⟩ = some (.int .i64 e') ∧ w2.cell? ⟨w.heap.size + 1, 2, none⟩ = some (.int .i64 pv) := ⟨by rw [hx2.cell]; rfl, by rw [hx2.cell]; rfl, by rw [hx2.cell]; rfl, by rw [hp3.cell]; rfl⟩
      have KEEP2 : ∀ u0 u1 u2, (((w2.setCell ⟨w.heap.size + 2, 0, none⟩ u0).setCell ⟨w.heap.size + 2, 1, none⟩ u1).setCell ⟨w.heap.size + 2, 2, none⟩ u2).cell? ⟨w1.heap.size, 0, none⟩ = some (.slice A n c) ∧ (((w2.setCell ⟨w.heap.size + 2, 0, none⟩ u0).setCell ⟨w.heap.size + 2, 1, none⟩ u1).setCell ⟨w.heap.size + 2, 2, none⟩ u2).cell? ⟨w1.heap.size, 1, none⟩ = some (.int .i64 (at' : Int)) ∧ (((w2.setCell ⟨w.heap.size + 2, 0, none⟩ u0).setCell ⟨w.heap.size + 2, 1, none⟩ u1).setCell ⟨w.heap.size + 2, 2, none⟩ u2).cell? ⟨w1.heap.size, 2, none⟩ = some (.int .i64 e') ∧ (((w2.setCell ⟨w.heap.size + 2, 0, none⟩ u0).setCell ⟨w.heap.size + 2, 1, none⟩ u1).setCell ⟨w.heap.size + 2, 2, none⟩ u2).cell? ⟨w.heap.size + 1, 2, none⟩ = some (.int .i64 pv) := fun u0 u1 u2 => ⟨(set3_other _ _ _ _ _ _ (by show w1.heap.size ≠ w.heap.size + 2; omega)).trans KEEP1.1, (set3_other _ _ _ _ _ _ (by show w1.heap.size ≠ w.heap.size + 2; omega)).trans KEEP1.2.1, (set3_other _ _ _ _ _ _ (by show w1.heap.size ≠ w.heap.size + 2; omega)).trans KEEP1.2.2.1, (set3_other _ _ _ _ _ _ (by show w.heap.size + 1 ≠ w.heap.size + 2; omega)).trans KEEP1.2.2.2⟩
      have c0 : w2.cell? ⟨w.heap.size + 2, 0, none⟩ = some (.slice none 0 0) := by rw [hr3.cell]; rfl
      have c1 : w2.cell? ⟨w.heap.size + 2, 1, none⟩ = some (.int .i64 0) := by rw [hr3.cell]; rfl
      have c2 : w2.cell? ⟨w.heap.size + 2, 2, none⟩ = some (.int .i64 0) := by rw [hr3.cell]; rfl
      have f0 := hr3.frozen 0
      have f1 := hr3.frozen 1
      have f2 := hr3.frozen 2))
  have HST := Lib.hid hst
  clear hst hx2 hr3 hp3 KEEP1 KEEP2 x0 x1 x2 p1 p2
  go_wp2_with fail
  refine bodyPost_ret (v := .tuple #[.agg #[.slice A n c, .int .i64 (at' : Int), .int .i64 e'], .bool true]) (by simp [results, Try.results15, go_sem, c0, c1, c2]) rfl ⟨rfl, ?_⟩
  exact step_end HRD.out HB1.out (((Fr.refl (fun i => i = g) w1).alloc _).drew) HST.out

end Go.Proofs.Ytnhibnjgdkpomaa
