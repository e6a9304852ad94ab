/-
  A deed, of both.
-/
import Derived.Test.YthlaaeopohilmaaRgAsk
set_option linter.unusedVariables false
set_option linter.unusedSimpArgs false
namespace Go.Proofs.Ythlaaeopohilmaa
open Go.RowKit Plain

namespace Plain
/-- What a ring has when a deed was done. -/
def stepL (room : Nat) (kind v : Int) (L : List Int) : List Int :=
  if kind = 0 then (if L.length < room then L ++ [v] else L) else if kind = 1 then L.tail else if kind = 2 then cutL (aroundV v 3) L else L
theorem stepL_le {room : Nat} {kind v : Int} {L : List Int} (h : L.length ≤ room) : (stepL room kind v L).length ≤ room := by
  unfold stepL
  split
  · split
    · simp; omega
    · exact h
  · split
    · simp; omega
    · split
      · exact Nat.le_trans (cutL_le _ _) h
      · exact h
end Plain
/-- What a deed leaves. -/
def DoesPost (g s room : Nat) (L' : List Int) (D : Nat → Prop) (w : World) (e : Ending) (w' : World) : Prop :=
  ∃ (f' : Nat) (A' : Option Addr) (c' : Nat), e = .returned (.tuple #[.agg #[.int .i64 (room : Int), .slice A' L'.length c'], .bool true]) ∧ RgI w' g s room f' L' ∧ RX w' (fun i => D i ∨ w.heap.size ≤ i) A' c' L' ∧ Fr (fun i => i = g ∨ i = s) w w'

/-- The three boxes of a deed. -/
structure DoW (w W : World) (g s room first : Nat) (L : List Int) (A : Option Addr) (c : Nat) (D : Nat → Prop) (kind v : Int) : Prop where
  b4 : Blk W w.heap.size 27 #[.int .i64 (room : Int), .slice A L.length c]
  b5 : Blk W (w.heap.size + 1) 32 #[.int .i64 kind, .int .i64 v]
  b6 : Blk W (w.heap.size + 1 + 1) 27 #[.int .i64 0, .slice none 0 0]
  ring : RgI W g s room first L
  rx : RX W (fun i => D i ∧ i < w.heap.size) A c L
  bel : Below w.heap.size w W
theorem DoW.new (w : World) {g s room first : Nat} {L : List Int} {A : Option Addr} {c : Nat} {D : Nat → Prop} (kind v : Int) (h : RgI w g s room first L) (hx : RX w D A c L) :
    DoW w (((w.alloc (.cells #[.int .i64 (room : Int), .slice A L.length c] 27)).alloc (.cells #[.int .i64 kind, .int .i64 v] 32)).alloc (.cells #[.int .i64 0, .slice none 0 0] 27)) g s room first L A c D kind v := by
  have h5 := (Blk.new (w.alloc (.cells #[.int .i64 (room : Int), .slice A L.length c] 27)) 32 #[.int .i64 kind, .int .i64 v]).alloc (.cells #[.int .i64 0, .slice none 0 0] 27)
  have h6 := Blk.new ((w.alloc (.cells #[.int .i64 (room : Int), .slice A L.length c] 27)).alloc (.cells #[.int .i64 kind, .int .i64 v] 32)) 27 #[.int .i64 0, .slice none 0 0]
  simp only [World.size_alloc] at h5 h6
  exact ⟨((Blk.new w _ _).alloc _).alloc _, h5, h6, ((h.alloc _).alloc _).alloc _, (((hx.mono (E := fun i => D i ∧ i < w.heap.size) (fun i h1 h2 => ⟨h1, h2⟩)).alloc _).alloc _).alloc _, (((Below.refl _ _).alloc (Nat.le_refl _) _).alloc (by simp) _).alloc (by simp; omega) _⟩
/-- The result's box when the deed is over. -/
theorem fin_box {W : World} {b : Nat} {t : TypeId} {u v a0 a1 : Value} (h : Blk W b t #[u, v]) : Blk ((W.setCell ⟨b, 0, none⟩ a0).setCell ⟨b, 1, none⟩ a1) b t #[a0, a1] := by
  have := (h.set_ 0 a0).set_ 1 a1
  simpa using this
/-- Where rows of numbers may stand in a deed. -/
def DE (w : World) (D : Nat → Prop) (i : Nat) : Prop := (D i ∧ i < w.heap.size) ∨ w.heap.size + 1 + 1 + 1 ≤ i
theorem does_end {w W6 : World} {g s room f' n : Nat} {L' : List Int} {A' : Option Addr} {c' : Nat} {D : Nat → Prop} {u0 u1 : Value} (k6 : Blk W6 (w.heap.size + 1 + 1) 27 #[u0, u1]) (hq : RgI W6 g s room f' L') (hx : RX W6 (DE w D) A' c' L') (hf : Fr (fun i => i = g ∨ i = s) w W6) (hgs : g < w.heap.size ∧ s < w.heap.size) (hn : L'.length = n) :
    DoesPost g s room L' D w (.returned (.tuple #[.agg #[.int .i64 (room : Int), .slice A' n c'], .bool true])) ((W6.setCell ⟨w.heap.size + 1 + 1, 0, none⟩ (.int .i64 (room : Int))).setCell ⟨w.heap.size + 1 + 1, 1, none⟩ (.slice A' n c')) ∧
      ((W6.setCell ⟨w.heap.size + 1 + 1, 0, none⟩ (.int .i64 (room : Int))).setCell ⟨w.heap.size + 1 + 1, 1, none⟩ (.slice A' n c')).heap[w.heap.size + 1 + 1]? = some (.cells #[.int .i64 (room : Int), .slice A' n c'] 27 (0, 0)) := by
  subst hn
  have hs := ((Fr.refl (fun i => i = w.heap.size + 1 + 1) W6).setCell (p := ⟨w.heap.size + 1 + 1, 0, none⟩) (.inl rfl) (.int .i64 (room : Int))).setCell (p := ⟨w.heap.size + 1 + 1, 1, none⟩) (.inl rfl) (.slice A' L'.length c')
  refine ⟨⟨f', A', c', rfl, hq.fr hs (by omega) (by omega), (hx.fr hs (fun i hi _ h => ?_)).mono (fun i hi _ => ?_), hf.trans hs (fun i hi h => by omega)⟩, fin_box k6⟩
  · rcases hi with hi | hi <;> omega
  · rcases hi with hi | hi
    · exact .inl hi.1
    · exact .inr (by omega)

set_option maxRecDepth 100000 in
set_option maxHeartbeats 4000000 in
theorem does_push_yes (g s room first : Nat) (L : List Int) (A : Option Addr) (c : Nat) (w : World) (D : Nat → Prop) (v : Int) (h : RgI w g s room first L) (hx : RX w D A c L) (hDg : ¬ D g) (hDs : ¬ D s) (hv1 : -9223372036854775808 ≤ v) (hv2 : v ≤ 9223372036854775807) (hfull : L.length < room) :
    Calls Try.prog 10 #[.pointer (some ⟨g, 0, none⟩), .agg #[.int .i64 (room : Int), .slice A L.length c], .agg #[.int .i64 0, .int .i64 v]] w (DoesPost g s room ((L ++ [v])) D w) := by
  have hl1 := h.len
  have hl2 := h.hi
  have hgs := h.lt
  have hdw := DoW.new w 0 v h hx
  obtain ⟨W3, hW3⟩ : ∃ W, W = ((w.alloc (.cells #[.int .i64 (room : Int), .slice A L.length c] 27)).alloc (.cells #[.int .i64 0, .int .i64 v] 32)).alloc (.cells #[.int .i64 0, .slice none 0 0] 27) := ⟨_, rfl⟩
  rw [← hW3] at hdw
  have HDW := Lib.hid hdw; have HW3 := Lib.hid hW3
  have zd := hdw.b6.lt
  clear h hx hdw hW3
  go_enter Try.func10, Try.ntmps10
  go_upto_region 1 with fail
  rw [← HW3.out]
  clear HW3
  have x0 : W3.cell? ⟨w.heap.size, 0, none⟩ = some (.int .i64 (room : Int)) := (HDW.out.b4.cell 0).trans rfl
  have x1 : W3.cell? ⟨w.heap.size, 1, none⟩ = some (.slice A L.length c) := (HDW.out.b4.cell 1).trans rfl
  have d0 : W3.cell? ⟨w.heap.size + 1, 0, none⟩ = some (.int .i64 0) := (HDW.out.b5.cell 0).trans rfl
  have d1 : W3.cell? ⟨w.heap.size + 1, 1, none⟩ = some (.int .i64 v) := (HDW.out.b5.cell 1).trans rfl
  go_wp2_with fail
  refine (refPush_yes room A c L W3 v hfull hl2 _ HDW.out.rx).mono ?_
  rintro e w4 ⟨A', c', rfl, hrx, hb⟩
  have zb := hb.size
  have HB := Lib.hid hb; have HRX := Lib.hid hrx
  obtain ⟨nb, hnb⟩ : ∃ b, b = w4.heap.size := ⟨_, rfl⟩
  have hb8 := Blk.new w4 27 #[.int .i64 (room : Int), .slice A' (L.length + 1) c']
  have hb5 := (HDW.out.b5.below hb (by omega)).alloc (.cells #[.int .i64 (room : Int), .slice A' (L.length + 1) c'] 27)
  have hb6 := (HDW.out.b6.below hb (by omega)).alloc (.cells #[.int .i64 (room : Int), .slice A' (L.length + 1) c'] 27)
  have hr4 := ((HDW.out.ring.below hb (by have := HDW.out.bel.size; omega) (by have := HDW.out.bel.size; omega)).alloc (.cells #[.int .i64 (room : Int), .slice A' (L.length + 1) c'] 27))
  have hrx4 : RX _ (DE w D) A' c' (L ++ [v]) := (hrx.mono (E := DE w D) (fun i hi _ => by unfold DE; omega)).alloc (.cells #[.int .i64 (room : Int), .slice A' (L.length + 1) c'] 27)
  have hbel4 := (HDW.out.bel.trans (hb.mono (by omega))).alloc (by omega) (.cells #[.int .i64 (room : Int), .slice A' (L.length + 1) c'] 27)
  obtain ⟨W5, hW5⟩ : ∃ W, W = w4.alloc (.cells #[.int .i64 (room : Int), .slice A' (L.length + 1) c'] 27) := ⟨_, rfl⟩
  rw [← hW5] at hb8 hb5 hb6 hr4 hrx4 hbel4
  rw [← hnb] at hb8
  have HR5 := Lib.hid hr4
  have hr4 := hr4.drew
  have H8 := Lib.hid hb8; have H5 := Lib.hid hb5; have H6 := Lib.hid hb6; have HR4 := Lib.hid hr4; have HX4 := Lib.hid hrx4; have HBEL := Lib.hid hbel4; have HW5 := Lib.hid hW5; have HNB := Lib.hid hnb
  have zn : w.heap.size + 1 + 1 < nb := by omega
  have zn5 := hb8.lt
  have ne1 : ¬ nb = w.heap.size + 1 + 1 := by omega
  have ne2 : ¬ w.heap.size + 1 + 1 = nb := by omega
  clear x0 x1 d0 d1 hb8 hb5 hb6 hr4 hrx4 hbel4 hb hrx HRX HB hW5 hnb HDW
  go_upto_region 4 with fail
  rw [← HW5.out, ← HNB.out]
  clear HW5 HNB
  have n0 : W5.cell? ⟨nb, 0, none⟩ = some (.int .i64 (room : Int)) := (H8.out.cell 0).trans rfl
  have n1 : W5.cell? ⟨nb, 1, none⟩ = some (.slice A' (L.length + 1) c') := (H8.out.cell 1).trans rfl
  have d0 : W5.cell? ⟨w.heap.size + 1, 0, none⟩ = some (.int .i64 0) := (H5.out.cell 0).trans rfl
  have d1 : W5.cell? ⟨w.heap.size + 1, 1, none⟩ = some (.int .i64 v) := (H5.out.cell 1).trans rfl
  go_region_held3 (fun w' => w'.cell? ⟨nb, 0, none⟩ = some (.int .i64 (room : Int)) ∧ w'.cell? ⟨nb, 1, none⟩ = some (.slice A' (L.length + 1) c') ∧ w'.cell? ⟨w.heap.size + 1, 1, none⟩ = some (.int .i64 v))
    (first | with_reducible exact ⟨n0, n1, d1⟩ | with_reducible exact ⟨m0, m1, e1⟩ | go_keep)
    ((go_simp; with_reducible refine (push_yesI g s room first L _ HR4.out v hfull).mono ?_
      rintro e w6 ⟨rfl, hq, hf⟩
      have k8 := hf.blk H8.out (by have := H8.out.lt; omega)
      have k5 := hf.blk H5.out (by omega)
      have k6 := hf.blk H6.out (by omega)
      have m0 : w6.cell? ⟨nb, 0, none⟩ = some (.int .i64 (room : Int)) := (k8.cell 0).trans rfl
      have m1 : w6.cell? ⟨nb, 1, none⟩ = some (.slice A' (L.length + 1) c') := (k8.cell 1).trans rfl
      have e0 : w6.cell? ⟨w.heap.size + 1, 0, none⟩ = some (.int .i64 0) := (k5.cell 0).trans rfl
      have e1 : w6.cell? ⟨w.heap.size + 1, 1, none⟩ = some (.int .i64 v) := (k5.cell 1).trans rfl
      have t0 : w6.cell? ⟨w.heap.size + 1 + 1, 0, none⟩ = some (.int .i64 0) := (k6.cell 0).trans rfl
      have u0 : w6.frozen? ⟨w.heap.size + 1 + 1, 0, none⟩ = false := k6.frozen 0
      have t1 : w6.cell? ⟨w.heap.size + 1 + 1, 1, none⟩ = some (.slice none 0 0) := (k6.cell 1).trans rfl
      have u1 : w6.frozen? ⟨w.heap.size + 1 + 1, 1, none⟩ = false := k6.frozen 1
      skip))
  all_goals
    clear n0 n1 d0 d1 m0 m1 e0 e1 t0 t1 u0 u1
    go_wp2_with fail
    have hf5 : Fr (fun i => i = g ∨ i = s) W5 w6 := ((Fr.refl _ W5).drew).trans hf (fun _ _ h => h)
    have kx := HX4.out.fr hf5 (fun i hi hl h => by unfold DE at hi; rcases h with rfl | rfl <;> rcases hi with hi | hi <;> first | exact hDg hi.1 | exact hDs hi.1 | omega)
    have hE := does_end (D := D) k6 hq kx (n := L.length + 1) (((Fr.of_below HBEL.out).mono (S := fun i => i = g ∨ i = s) (fun i hi h => by omega)).trans hf5 (fun i _ h => h)) hgs (by simp)
    refine bodyPost_ret (v := .tuple #[.agg #[.int .i64 (room : Int), .slice A' (L.length + 1) c'], .bool true]) (res_cell_slot rfl _ _ (w.heap.size + 1 + 1) 27 _ (0, 0) _ _ rfl rfl hE.2 Try.underlying27 rfl (by kernel_rfl)) rfl hE.1

set_option maxRecDepth 100000 in
set_option maxHeartbeats 4000000 in
theorem does_push_no (g s room first : Nat) (L : List Int) (A : Option Addr) (c : Nat) (w : World) (D : Nat → Prop) (v : Int) (h : RgI w g s room first L) (hx : RX w D A c L) (hDg : ¬ D g) (hDs : ¬ D s) (hv1 : -9223372036854775808 ≤ v) (hv2 : v ≤ 9223372036854775807) (hfull : ¬ L.length < room) :
    Calls Try.prog 10 #[.pointer (some ⟨g, 0, none⟩), .agg #[.int .i64 (room : Int), .slice A L.length c], .agg #[.int .i64 0, .int .i64 v]] w (DoesPost g s room (L) D w) := by
  have hl1 := h.len
  have hl2 := h.hi
  have hgs := h.lt
  have hdw := DoW.new w 0 v h hx
  obtain ⟨W3, hW3⟩ : ∃ W, W = ((w.alloc (.cells #[.int .i64 (room : Int), .slice A L.length c] 27)).alloc (.cells #[.int .i64 0, .int .i64 v] 32)).alloc (.cells #[.int .i64 0, .slice none 0 0] 27) := ⟨_, rfl⟩
  rw [← hW3] at hdw
  have HDW := Lib.hid hdw; have HW3 := Lib.hid hW3
  have zd := hdw.b6.lt
  clear h hx hdw hW3
  go_enter Try.func10, Try.ntmps10
  go_upto_region 1 with fail
  rw [← HW3.out]
  clear HW3
  have x0 : W3.cell? ⟨w.heap.size, 0, none⟩ = some (.int .i64 (room : Int)) := (HDW.out.b4.cell 0).trans rfl
  have x1 : W3.cell? ⟨w.heap.size, 1, none⟩ = some (.slice A L.length c) := (HDW.out.b4.cell 1).trans rfl
  have d0 : W3.cell? ⟨w.heap.size + 1, 0, none⟩ = some (.int .i64 0) := (HDW.out.b5.cell 0).trans rfl
  have d1 : W3.cell? ⟨w.heap.size + 1, 1, none⟩ = some (.int .i64 v) := (HDW.out.b5.cell 1).trans rfl
  go_wp2_with fail
  refine (refPush_no room A c L W3 v (by omega) hl2 (by omega)).mono ?_
  rintro e w4 ⟨rfl, hb⟩
  have zb := hb.size
  have hrx := HDW.out.rx.below hb (Nat.le_refl _)
  have HB := Lib.hid hb; have HRX := Lib.hid hrx
  obtain ⟨nb, hnb⟩ : ∃ b, b = w4.heap.size := ⟨_, rfl⟩
  have hb8 := Blk.new w4 27 #[.int .i64 (room : Int), .slice A (L.length) c]
  have hb5 := (HDW.out.b5.below hb (by omega)).alloc (.cells #[.int .i64 (room : Int), .slice A (L.length) c] 27)
  have hb6 := (HDW.out.b6.below hb (by omega)).alloc (.cells #[.int .i64 (room : Int), .slice A (L.length) c] 27)
  have hr4 := ((HDW.out.ring.below hb (by have := HDW.out.bel.size; omega) (by have := HDW.out.bel.size; omega)).alloc (.cells #[.int .i64 (room : Int), .slice A (L.length) c] 27))
  have hrx4 : RX _ (DE w D) A c L := (hrx.mono (E := DE w D) (fun i hi _ => by unfold DE; exact .inl hi)).alloc (.cells #[.int .i64 (room : Int), .slice A (L.length) c] 27)
  have hbel4 := (HDW.out.bel.trans (hb.mono (by omega))).alloc (by omega) (.cells #[.int .i64 (room : Int), .slice A (L.length) c] 27)
  obtain ⟨W5, hW5⟩ : ∃ W, W = w4.alloc (.cells #[.int .i64 (room : Int), .slice A (L.length) c] 27) := ⟨_, rfl⟩
  rw [← hW5] at hb8 hb5 hb6 hr4 hrx4 hbel4
  rw [← hnb] at hb8
  have HR5 := Lib.hid hr4
  have hr4 := hr4.drew
  have H8 := Lib.hid hb8; have H5 := Lib.hid hb5; have H6 := Lib.hid hb6; have HR4 := Lib.hid hr4; have HX4 := Lib.hid hrx4; have HBEL := Lib.hid hbel4; have HW5 := Lib.hid hW5; have HNB := Lib.hid hnb
  have zn : w.heap.size + 1 + 1 < nb := by omega
  have zn5 := hb8.lt
  have ne1 : ¬ nb = w.heap.size + 1 + 1 := by omega
  have ne2 : ¬ w.heap.size + 1 + 1 = nb := by omega
  clear x0 x1 d0 d1 hb8 hb5 hb6 hr4 hrx4 hbel4 hb hrx HRX HB hW5 hnb HDW
  go_upto_region 4 with fail
  rw [← HW5.out, ← HNB.out]
  clear HW5 HNB
  have n0 : W5.cell? ⟨nb, 0, none⟩ = some (.int .i64 (room : Int)) := (H8.out.cell 0).trans rfl
  have n1 : W5.cell? ⟨nb, 1, none⟩ = some (.slice A (L.length) c) := (H8.out.cell 1).trans rfl
  have d0 : W5.cell? ⟨w.heap.size + 1, 0, none⟩ = some (.int .i64 0) := (H5.out.cell 0).trans rfl
  have d1 : W5.cell? ⟨w.heap.size + 1, 1, none⟩ = some (.int .i64 v) := (H5.out.cell 1).trans rfl
  have r0 : W5.cell? ⟨w.heap.size + 1 + 1, 0, none⟩ = some (.int .i64 0) := (H6.out.cell 0).trans rfl
  have q0 : W5.frozen? ⟨w.heap.size + 1 + 1, 0, none⟩ = false := H6.out.frozen 0
  have r1 : W5.cell? ⟨w.heap.size + 1 + 1, 1, none⟩ = some (.slice none 0 0) := (H6.out.cell 1).trans rfl
  have q1 : W5.frozen? ⟨w.heap.size + 1 + 1, 1, none⟩ = false := H6.out.frozen 1
  go_region_held3 (fun w' => w'.cell? ⟨nb, 0, none⟩ = some (.int .i64 (room : Int)) ∧ w'.cell? ⟨nb, 1, none⟩ = some (.slice A (L.length) c) ∧ w'.cell? ⟨w.heap.size + 1, 1, none⟩ = some (.int .i64 v))
    (first | with_reducible exact ⟨n0, n1, d1⟩ | with_reducible exact ⟨m0, m1, e1⟩ | go_keep)
    ((go_simp; with_reducible refine (push_noI g s room first L _ HR4.out v (by omega)).mono ?_
      rintro e w6 ⟨rfl, n6, rfl⟩
      skip))
  all_goals
    clear n0 n1 d0 d1 r0 r1 q0 q1
    go_wp2_with fail
    have hE := does_end (D := D) (H6.out.drewN (1 + n6)) (HR5.out.drewN (1 + n6)) (HX4.out.fr ((Fr.refl (fun _ => False) W5).drewN (1 + n6)) (fun _ _ _ h => h)) (n := L.length) (((Fr.of_below HBEL.out).mono (S := fun i => i = g ∨ i = s) (fun i hi h => by omega)).trans ((Fr.refl (fun i => i = g ∨ i = s) W5).drewN (1 + n6)) (fun i _ h => h)) hgs (by simp)
    refine bodyPost_ret (v := .tuple #[.agg #[.int .i64 (room : Int), .slice A (L.length) c], .bool true]) (res_cell_slot rfl _ _ (w.heap.size + 1 + 1) 27 _ (0, 0) _ _ rfl rfl hE.2 Try.underlying27 rfl (by kernel_rfl)) rfl hE.1

set_option maxRecDepth 100000 in
set_option maxHeartbeats 4000000 in
theorem does_pop_yes (g s room first : Nat) (L : List Int) (A : Option Addr) (c : Nat) (w : World) (D : Nat → Prop) (v : Int) (h : RgI w g s room first L) (hx : RX w D A c L) (hDg : ¬ D g) (hDs : ¬ D s) (hv1 : -9223372036854775808 ≤ v) (hv2 : v ≤ 9223372036854775807) (y : Int) (r : List Int) (hL : L = y :: r) :
    Calls Try.prog 10 #[.pointer (some ⟨g, 0, none⟩), .agg #[.int .i64 (room : Int), .slice A L.length c], .agg #[.int .i64 1, .int .i64 v]] w (DoesPost g s room (r) D w) := by
  have hl1 := h.len
  have hl2 := h.hi
  have hgs := h.lt
  have hdw := DoW.new w 1 v h hx
  obtain ⟨W3, hW3⟩ : ∃ W, W = ((w.alloc (.cells #[.int .i64 (room : Int), .slice A L.length c] 27)).alloc (.cells #[.int .i64 1, .int .i64 v] 32)).alloc (.cells #[.int .i64 0, .slice none 0 0] 27) := ⟨_, rfl⟩
  rw [← hW3] at hdw
  have HDW := Lib.hid hdw; have HW3 := Lib.hid hW3
  have zd := hdw.b6.lt
  clear h hx hdw hW3
  have HL := Lib.hid hL
  clear hL
  go_enter Try.func10, Try.ntmps10
  go_upto_region 1 with fail
  rw [← HW3.out]
  clear HW3
  have x0 : W3.cell? ⟨w.heap.size, 0, none⟩ = some (.int .i64 (room : Int)) := (HDW.out.b4.cell 0).trans rfl
  have x1 : W3.cell? ⟨w.heap.size, 1, none⟩ = some (.slice A L.length c) := (HDW.out.b4.cell 1).trans rfl
  have d0 : W3.cell? ⟨w.heap.size + 1, 0, none⟩ = some (.int .i64 1) := (HDW.out.b5.cell 0).trans rfl
  have d1 : W3.cell? ⟨w.heap.size + 1, 1, none⟩ = some (.int .i64 v) := (HDW.out.b5.cell 1).trans rfl
  go_wp2_with fail
  refine (refPop_yes room A c L W3 y r HL.out (by omega) _ HDW.out.rx).mono ?_
  rintro e w4 ⟨A', c', rfl, hrx, hb⟩
  have zb := hb.size
  obtain ⟨nb, hnb⟩ : ∃ b, b = w4.heap.size := ⟨_, rfl⟩
  have hb8 := Blk.new w4 27 #[.int .i64 (room : Int), .slice A' r.length c']
  have hb6 := (HDW.out.b6.below hb (by omega)).alloc (.cells #[.int .i64 (room : Int), .slice A' r.length c'] 27)
  have hr4 := ((HDW.out.ring.below hb (by have := HDW.out.bel.size; omega) (by have := HDW.out.bel.size; omega)).alloc (.cells #[.int .i64 (room : Int), .slice A' r.length c'] 27))
  have hrx4 : RX _ (DE w D) A' c' r := (hrx.mono (E := DE w D) (fun i hi _ => .inl hi)).alloc (.cells #[.int .i64 (room : Int), .slice A' r.length c'] 27)
  have hbel4 := (HDW.out.bel.trans (hb.mono (by omega))).alloc (by omega) (.cells #[.int .i64 (room : Int), .slice A' r.length c'] 27)
  obtain ⟨W5, hW5⟩ : ∃ W, W = w4.alloc (.cells #[.int .i64 (room : Int), .slice A' r.length c'] 27) := ⟨_, rfl⟩
  rw [← hW5] at hb8 hb6 hr4 hrx4 hbel4
  rw [← hnb] at hb8
  rw [HL.out] at hr4
  have H8 := Lib.hid hb8; have H6 := Lib.hid hb6; have HR4 := Lib.hid hr4; have HX4 := Lib.hid hrx4; have HBEL := Lib.hid hbel4; have HW5 := Lib.hid hW5; have HNB := Lib.hid hnb
  have zn : w.heap.size + 1 + 1 < nb := by omega
  have zn5 := hb8.lt
  clear x0 x1 d0 d1 hb8 hb6 hr4 hrx4 hbel4 hb hrx hW5 hnb HDW
  go_wp2_with fail
  rw [← HW5.out, ← HNB.out]
  clear HW5 HNB
  refine (peek_yesI g s room first r W5 y HR4.out).mono ?_
  rintro e w6 ⟨rfl, n6, rfl⟩
  have HR6 := Lib.hid (HR4.out.drewN n6)
  go_wp2_with fail
  refine (pop_yesI g s room first r _ y HR6.out).mono ?_
  rintro e w7 ⟨rfl, hq, hf⟩
  have hf5 : Fr (fun i => i = g ∨ i = s) W5 w7 := ((Fr.refl _ W5).drewN n6).trans hf (fun _ _ h => h)
  have k8 := hf5.blk H8.out (by omega)
  have k6 := hf5.blk H6.out (by omega)
  have kx := HX4.out.fr hf5 (fun i hi hl h => by unfold DE at hi; rcases h with rfl | rfl <;> rcases hi with hi | hi <;> first | exact hDg hi.1 | exact hDs hi.1 | omega)
  have m0 : w7.cell? ⟨nb, 0, none⟩ = some (.int .i64 (room : Int)) := (k8.cell 0).trans rfl
  have m1 : w7.cell? ⟨nb, 1, none⟩ = some (.slice A' r.length c') := (k8.cell 1).trans rfl
  have t0 : w7.cell? ⟨w.heap.size + 1 + 1, 0, none⟩ = some (.int .i64 0) := (k6.cell 0).trans rfl
  have u0 : w7.frozen? ⟨w.heap.size + 1 + 1, 0, none⟩ = false := k6.frozen 0
  have t1 : w7.cell? ⟨w.heap.size + 1 + 1, 1, none⟩ = some (.slice none 0 0) := (k6.cell 1).trans rfl
  have u1 : w7.frozen? ⟨w.heap.size + 1 + 1, 1, none⟩ = false := k6.frozen 1
  have hE := does_end (D := D) k6 hq kx (n := r.length) (((Fr.of_below HBEL.out).mono (S := fun i => i = g ∨ i = s) (fun i hi h => by omega)).trans hf5 (fun i _ h => h)) hgs rfl
  have HE := Lib.hid hE
  clear k8 k6 kx hq hf5 hE hf
  go_wp2_with fail
  refine bodyPost_ret (v := .tuple #[.agg #[.int .i64 (room : Int), .slice A' (r.length) c'], .bool true]) (res_cell_slot rfl _ _ (w.heap.size + 1 + 1) 27 _ (0, 0) _ _ rfl rfl HE.out.2 Try.underlying27 rfl (by kernel_rfl)) rfl HE.out.1

set_option maxRecDepth 100000 in
set_option maxHeartbeats 4000000 in
theorem does_pop_no (g s room first : Nat) (L : List Int) (A : Option Addr) (c : Nat) (w : World) (D : Nat → Prop) (v : Int) (h : RgI w g s room first L) (hx : RX w D A c L) (hDg : ¬ D g) (hDs : ¬ D s) (hv1 : -9223372036854775808 ≤ v) (hv2 : v ≤ 9223372036854775807) (hL : L = []) :
    Calls Try.prog 10 #[.pointer (some ⟨g, 0, none⟩), .agg #[.int .i64 (room : Int), .slice A L.length c], .agg #[.int .i64 1, .int .i64 v]] w (DoesPost g s room (L) D w) := by
  have hl1 := h.len
  have hl2 := h.hi
  have hgs := h.lt
  have hdw := DoW.new w 1 v h hx
  obtain ⟨W3, hW3⟩ : ∃ W, W = ((w.alloc (.cells #[.int .i64 (room : Int), .slice A L.length c] 27)).alloc (.cells #[.int .i64 1, .int .i64 v] 32)).alloc (.cells #[.int .i64 0, .slice none 0 0] 27) := ⟨_, rfl⟩
  rw [← hW3] at hdw
  have HDW := Lib.hid hdw; have HW3 := Lib.hid hW3
  have zd := hdw.b6.lt
  clear h hx hdw hW3
  have HL := Lib.hid hL
  clear hL
  go_enter Try.func10, Try.ntmps10
  go_upto_region 1 with fail
  rw [← HW3.out]
  clear HW3
  have x0 : W3.cell? ⟨w.heap.size, 0, none⟩ = some (.int .i64 (room : Int)) := (HDW.out.b4.cell 0).trans rfl
  have x1 : W3.cell? ⟨w.heap.size, 1, none⟩ = some (.slice A L.length c) := (HDW.out.b4.cell 1).trans rfl
  have d0 : W3.cell? ⟨w.heap.size + 1, 0, none⟩ = some (.int .i64 1) := (HDW.out.b5.cell 0).trans rfl
  have d1 : W3.cell? ⟨w.heap.size + 1, 1, none⟩ = some (.int .i64 v) := (HDW.out.b5.cell 1).trans rfl
  go_wp2_with fail
  refine (refPop_no room A c L W3 HL.out).mono ?_
  rintro e w4 ⟨rfl, hb⟩
  have zb := hb.size
  have hrx := HDW.out.rx.below hb (Nat.le_refl _)
  obtain ⟨nb, hnb⟩ : ∃ b, b = w4.heap.size := ⟨_, rfl⟩
  have hb8 := Blk.new w4 27 #[.int .i64 (room : Int), .slice A L.length c]
  have hb6 := (HDW.out.b6.below hb (by omega)).alloc (.cells #[.int .i64 (room : Int), .slice A L.length c] 27)
  have hr4 := ((HDW.out.ring.below hb (by have := HDW.out.bel.size; omega) (by have := HDW.out.bel.size; omega)).alloc (.cells #[.int .i64 (room : Int), .slice A L.length c] 27))
  have hrx4 : RX _ (DE w D) A c L := (hrx.mono (E := DE w D) (fun i hi _ => .inl hi)).alloc (.cells #[.int .i64 (room : Int), .slice A L.length c] 27)
  have hbel4 := (HDW.out.bel.trans (hb.mono (by omega))).alloc (by omega) (.cells #[.int .i64 (room : Int), .slice A L.length c] 27)
  obtain ⟨W5, hW5⟩ : ∃ W, W = w4.alloc (.cells #[.int .i64 (room : Int), .slice A L.length c] 27) := ⟨_, rfl⟩
  rw [← hW5] at hb8 hb6 hr4 hrx4 hbel4
  rw [← hnb] at hb8
  rw [HL.out] at hr4
  have H8 := Lib.hid hb8; have H6 := Lib.hid hb6; have HR4 := Lib.hid hr4; have HX4 := Lib.hid hrx4; have HBEL := Lib.hid hbel4; have HW5 := Lib.hid hW5; have HNB := Lib.hid hnb
  have zn : w.heap.size + 1 + 1 < nb := by omega
  have zn5 := hb8.lt
  clear x0 x1 d0 d1 hb8 hb6 hr4 hrx4 hbel4 hb hrx hW5 hnb HDW
  go_wp2_with fail
  rw [← HW5.out, ← HNB.out]
  clear HW5 HNB
  refine (peek_noI g s room first W5 HR4.out).mono ?_
  rintro e w6 ⟨rfl, n6, rfl⟩
  have HR6 := Lib.hid (HR4.out.drewN n6)
  go_wp2_with fail
  refine (pop_noI g s room first _ HR6.out).mono ?_
  rintro e w7 ⟨rfl, n7, rfl⟩
  rw [World.drewN_drewN]
  have hf5 : Fr (fun i => i = g ∨ i = s) W5 (W5.drewN (n6 + n7)) := (Fr.refl _ W5).drewN _
  have k8 := hf5.blk H8.out (by omega)
  have k6 := hf5.blk H6.out (by omega)
  have kx := HX4.out.fr ((Fr.refl (fun _ => False) W5).drewN (n6 + n7)) (fun _ _ _ h => h)
  have hq : RgI (W5.drewN (n6 + n7)) g s room first L := by rw [HL.out]; exact HR4.out.drewN _
  have m0 : (W5.drewN (n6 + n7)).cell? ⟨nb, 0, none⟩ = some (.int .i64 (room : Int)) := (k8.cell 0).trans rfl
  have m1 : (W5.drewN (n6 + n7)).cell? ⟨nb, 1, none⟩ = some (.slice A L.length c) := (k8.cell 1).trans rfl
  have t0 : (W5.drewN (n6 + n7)).cell? ⟨w.heap.size + 1 + 1, 0, none⟩ = some (.int .i64 0) := (k6.cell 0).trans rfl
  have u0 : (W5.drewN (n6 + n7)).frozen? ⟨w.heap.size + 1 + 1, 0, none⟩ = false := k6.frozen 0
  have t1 : (W5.drewN (n6 + n7)).cell? ⟨w.heap.size + 1 + 1, 1, none⟩ = some (.slice none 0 0) := (k6.cell 1).trans rfl
  have u1 : (W5.drewN (n6 + n7)).frozen? ⟨w.heap.size + 1 + 1, 1, none⟩ = false := k6.frozen 1
  have hE := does_end (D := D) k6 hq kx (n := L.length) (((Fr.of_below HBEL.out).mono (S := fun i => i = g ∨ i = s) (fun i hi h => by omega)).trans hf5 (fun i _ h => h)) hgs rfl
  have HE := Lib.hid hE
  clear k8 k6 kx hq hf5 hE HR6
  go_wp2_with fail
  refine bodyPost_ret (v := .tuple #[.agg #[.int .i64 (room : Int), .slice A (L.length) c], .bool true]) (res_cell_slot rfl _ _ (w.heap.size + 1 + 1) 27 _ (0, 0) _ _ rfl rfl HE.out.2 Try.underlying27 rfl (by kernel_rfl)) rfl HE.out.1

set_option maxRecDepth 100000 in
set_option maxHeartbeats 4000000 in
theorem does_at_neg (g s room first : Nat) (L : List Int) (A : Option Addr) (c : Nat) (w : World) (D : Nat → Prop) (v : Int) (h : RgI w g s room first L) (hx : RX w D A c L) (hDg : ¬ D g) (hDs : ¬ D s) (hv1 : -9223372036854775808 ≤ v) (hv2 : v ≤ 9223372036854775807) (kd : Int) (hk0 : (kd == 0) = false) (hk1 : (kd == 1) = false) (hk2 : (kd == 2) = false) (hv : v < 0) :
    Calls Try.prog 10 #[.pointer (some ⟨g, 0, none⟩), .agg #[.int .i64 (room : Int), .slice A L.length c], .agg #[.int .i64 kd, .int .i64 v]] w (DoesPost g s room (L) D w) := by
  have hl1 := h.len
  have hl2 := h.hi
  have hgs := h.lt
  have hdw := DoW.new w kd v h hx
  obtain ⟨W3, hW3⟩ : ∃ W, W = ((w.alloc (.cells #[.int .i64 (room : Int), .slice A L.length c] 27)).alloc (.cells #[.int .i64 kd, .int .i64 v] 32)).alloc (.cells #[.int .i64 0, .slice none 0 0] 27) := ⟨_, rfl⟩
  rw [← hW3] at hdw
  have HDW := Lib.hid hdw; have HW3 := Lib.hid hW3
  have zd := hdw.b6.lt
  clear h hx hdw hW3
  go_enter Try.func10, Try.ntmps10
  go_upto_region 1 with fail
  rw [← HW3.out]
  clear HW3
  have x0 : W3.cell? ⟨w.heap.size, 0, none⟩ = some (.int .i64 (room : Int)) := (HDW.out.b4.cell 0).trans rfl
  have x1 : W3.cell? ⟨w.heap.size, 1, none⟩ = some (.slice A L.length c) := (HDW.out.b4.cell 1).trans rfl
  have d0 : W3.cell? ⟨w.heap.size + 1, 0, none⟩ = some (.int .i64 kd) := (HDW.out.b5.cell 0).trans rfl
  have d1 : W3.cell? ⟨w.heap.size + 1, 1, none⟩ = some (.int .i64 v) := (HDW.out.b5.cell 1).trans rfl
  have HR3 := Lib.hid HDW.out.ring
  go_wp2_with fail
  refine (at_noI g s room first L W3 HR3.out v (.inl hv)).mono ?_
  rintro e w4 ⟨rfl, n4, rfl⟩
  have k4 := HDW.out.b4.drewN n4
  have k5 := HDW.out.b5.drewN n4
  have k6 := HDW.out.b6.drewN n4
  obtain ⟨W4, hW4⟩ : ∃ W, W = W3.drewN n4 := ⟨_, rfl⟩
  have hq : RgI W4 g s room first L := by rw [hW4]; exact HDW.out.ring.drewN n4
  have hf5 : Fr (fun i => i = g ∨ i = s) W3 W4 := by rw [hW4]; exact (Fr.refl _ W3).drewN n4
  have kx : RX W4 (DE w D) A c L := by rw [hW4]; exact (HDW.out.rx.mono (E := DE w D) (fun i hi _ => .inl hi)).fr ((Fr.refl (fun _ => False) W3).drewN n4) (fun _ _ _ h => h)
  rw [← hW4] at k4 k5 k6 ⊢
  have m0 : W4.cell? ⟨w.heap.size, 0, none⟩ = some (.int .i64 (room : Int)) := (k4.cell 0).trans rfl
  have m1 : W4.cell? ⟨w.heap.size, 1, none⟩ = some (.slice A L.length c) := (k4.cell 1).trans rfl
  have e0 : W4.cell? ⟨w.heap.size + 1, 0, none⟩ = some (.int .i64 kd) := (k5.cell 0).trans rfl
  have e1 : W4.cell? ⟨w.heap.size + 1, 1, none⟩ = some (.int .i64 v) := (k5.cell 1).trans rfl
  have t0 : W4.cell? ⟨w.heap.size + 1 + 1, 0, none⟩ = some (.int .i64 0) := (k6.cell 0).trans rfl
  have u0 : W4.frozen? ⟨w.heap.size + 1 + 1, 0, none⟩ = false := k6.frozen 0
  have t1 : W4.cell? ⟨w.heap.size + 1 + 1, 1, none⟩ = some (.slice none 0 0) := (k6.cell 1).trans rfl
  have u1 : W4.frozen? ⟨w.heap.size + 1 + 1, 1, none⟩ = false := k6.frozen 1
  have hff := (((Fr.of_below HDW.out.bel).mono (S := fun i => i = g ∨ i = s) (fun i hi h => by omega)).trans hf5 (fun i _ h => h))
  have hE := does_end (D := D) k6 hq kx (n := L.length) hff hgs rfl
  have HE := Lib.hid hE
  clear k4 k5 k6 kx hq hf5 hff hE hW4 x0 x1 d0 d1 HR3 HDW
  go_wp2_with fail
  refine bodyPost_ret (v := .tuple #[.agg #[.int .i64 (room : Int), .slice A L.length c], .bool true]) (res_cell_slot rfl _ _ (w.heap.size + 1 + 1) 27 _ (0, 0) _ _ rfl rfl HE.out.2 Try.underlying27 rfl (by kernel_rfl)) rfl HE.out.1

set_option maxRecDepth 100000 in
set_option maxHeartbeats 4000000 in
theorem does_at_far (g s room first : Nat) (L : List Int) (A : Option Addr) (c : Nat) (w : World) (D : Nat → Prop) (v : Int) (h : RgI w g s room first L) (hx : RX w D A c L) (hDg : ¬ D g) (hDs : ¬ D s) (hv1 : -9223372036854775808 ≤ v) (hv2 : v ≤ 9223372036854775807) (kd : Int) (hk0 : (kd == 0) = false) (hk1 : (kd == 1) = false) (hk2 : (kd == 2) = false) (hv0 : 0 ≤ v) (hv : (L.length : Int) ≤ v) :
    Calls Try.prog 10 #[.pointer (some ⟨g, 0, none⟩), .agg #[.int .i64 (room : Int), .slice A L.length c], .agg #[.int .i64 kd, .int .i64 v]] w (DoesPost g s room (L) D w) := by
  have hl1 := h.len
  have hl2 := h.hi
  have hgs := h.lt
  have hdw := DoW.new w kd v h hx
  obtain ⟨W3, hW3⟩ : ∃ W, W = ((w.alloc (.cells #[.int .i64 (room : Int), .slice A L.length c] 27)).alloc (.cells #[.int .i64 kd, .int .i64 v] 32)).alloc (.cells #[.int .i64 0, .slice none 0 0] 27) := ⟨_, rfl⟩
  rw [← hW3] at hdw
  have HDW := Lib.hid hdw; have HW3 := Lib.hid hW3
  have zd := hdw.b6.lt
  clear h hx hdw hW3
  go_enter Try.func10, Try.ntmps10
  go_upto_region 1 with fail
  rw [← HW3.out]
  clear HW3
  have x0 : W3.cell? ⟨w.heap.size, 0, none⟩ = some (.int .i64 (room : Int)) := (HDW.out.b4.cell 0).trans rfl
  have x1 : W3.cell? ⟨w.heap.size, 1, none⟩ = some (.slice A L.length c) := (HDW.out.b4.cell 1).trans rfl
  have d0 : W3.cell? ⟨w.heap.size + 1, 0, none⟩ = some (.int .i64 kd) := (HDW.out.b5.cell 0).trans rfl
  have d1 : W3.cell? ⟨w.heap.size + 1, 1, none⟩ = some (.int .i64 v) := (HDW.out.b5.cell 1).trans rfl
  have HR3 := Lib.hid HDW.out.ring
  go_wp2_with fail
  refine (at_noI g s room first L W3 HR3.out v (.inr hv)).mono ?_
  rintro e w4 ⟨rfl, n4, rfl⟩
  have k4 := HDW.out.b4.drewN n4
  have k5 := HDW.out.b5.drewN n4
  have k6 := HDW.out.b6.drewN n4
  obtain ⟨W4, hW4⟩ : ∃ W, W = W3.drewN n4 := ⟨_, rfl⟩
  have hq : RgI W4 g s room first L := by rw [hW4]; exact HDW.out.ring.drewN n4
  have hf5 : Fr (fun i => i = g ∨ i = s) W3 W4 := by rw [hW4]; exact (Fr.refl _ W3).drewN n4
  have kx : RX W4 (DE w D) A c L := by rw [hW4]; exact (HDW.out.rx.mono (E := DE w D) (fun i hi _ => .inl hi)).fr ((Fr.refl (fun _ => False) W3).drewN n4) (fun _ _ _ h => h)
  rw [← hW4] at k4 k5 k6 ⊢
  have m0 : W4.cell? ⟨w.heap.size, 0, none⟩ = some (.int .i64 (room : Int)) := (k4.cell 0).trans rfl
  have m1 : W4.cell? ⟨w.heap.size, 1, none⟩ = some (.slice A L.length c) := (k4.cell 1).trans rfl
  have e0 : W4.cell? ⟨w.heap.size + 1, 0, none⟩ = some (.int .i64 kd) := (k5.cell 0).trans rfl
  have e1 : W4.cell? ⟨w.heap.size + 1, 1, none⟩ = some (.int .i64 v) := (k5.cell 1).trans rfl
  have t0 : W4.cell? ⟨w.heap.size + 1 + 1, 0, none⟩ = some (.int .i64 0) := (k6.cell 0).trans rfl
  have u0 : W4.frozen? ⟨w.heap.size + 1 + 1, 0, none⟩ = false := k6.frozen 0
  have t1 : W4.cell? ⟨w.heap.size + 1 + 1, 1, none⟩ = some (.slice none 0 0) := (k6.cell 1).trans rfl
  have u1 : W4.frozen? ⟨w.heap.size + 1 + 1, 1, none⟩ = false := k6.frozen 1
  have hff := (((Fr.of_below HDW.out.bel).mono (S := fun i => i = g ∨ i = s) (fun i hi h => by omega)).trans hf5 (fun i _ h => h))
  have hE := does_end (D := D) k6 hq kx (n := L.length) hff hgs rfl
  have HE := Lib.hid hE
  clear k4 k5 k6 kx hq hf5 hff hE hW4 x0 x1 d0 d1 HR3 HDW
  go_wp2_with fail
  refine bodyPost_ret (v := .tuple #[.agg #[.int .i64 (room : Int), .slice A L.length c], .bool true]) (res_cell_slot rfl _ _ (w.heap.size + 1 + 1) 27 _ (0, 0) _ _ rfl rfl HE.out.2 Try.underlying27 rfl (by kernel_rfl)) rfl HE.out.1

set_option maxRecDepth 100000 in
set_option maxHeartbeats 4000000 in
theorem does_at_in (g s room first : Nat) (L : List Int) (A : Option Addr) (c : Nat) (w : World) (D : Nat → Prop) (v : Int) (h : RgI w g s room first L) (hx : RX w D A c L) (hDg : ¬ D g) (hDs : ¬ D s) (hv1 : -9223372036854775808 ≤ v) (hv2 : v ≤ 9223372036854775807) (kd : Int) (hk0 : (kd == 0) = false) (hk1 : (kd == 1) = false) (hk2 : (kd == 2) = false) (i : Nat) (hvi : v = (i : Int)) (y : Int) (hy : L[i]? = some y) :
    Calls Try.prog 10 #[.pointer (some ⟨g, 0, none⟩), .agg #[.int .i64 (room : Int), .slice A L.length c], .agg #[.int .i64 kd, .int .i64 v]] w (DoesPost g s room (L) D w) := by
  subst hvi
  have hil : i < L.length := (List.getElem?_eq_some_iff.1 hy).1
  have hl1 := h.len
  have hl2 := h.hi
  have hgs := h.lt
  have hdw := DoW.new w kd (i : Int) h hx
  obtain ⟨W3, hW3⟩ : ∃ W, W = ((w.alloc (.cells #[.int .i64 (room : Int), .slice A L.length c] 27)).alloc (.cells #[.int .i64 kd, .int .i64 (i : Int)] 32)).alloc (.cells #[.int .i64 0, .slice none 0 0] 27) := ⟨_, rfl⟩
  rw [← hW3] at hdw
  have HDW := Lib.hid hdw; have HW3 := Lib.hid hW3
  have zd := hdw.b6.lt
  clear h hx hdw hW3
  have HYY := Lib.hid hy
  clear hy
  go_enter Try.func10, Try.ntmps10
  go_upto_region 1 with fail
  rw [← HW3.out]
  clear HW3
  have x0 : W3.cell? ⟨w.heap.size, 0, none⟩ = some (.int .i64 (room : Int)) := (HDW.out.b4.cell 0).trans rfl
  have x1 : W3.cell? ⟨w.heap.size, 1, none⟩ = some (.slice A L.length c) := (HDW.out.b4.cell 1).trans rfl
  have d0 : W3.cell? ⟨w.heap.size + 1, 0, none⟩ = some (.int .i64 kd) := (HDW.out.b5.cell 0).trans rfl
  have d1 : W3.cell? ⟨w.heap.size + 1, 1, none⟩ = some (.int .i64 (i : Int)) := (HDW.out.b5.cell 1).trans rfl
  have HR3 := Lib.hid HDW.out.ring
  go_wp2_with fail
  refine (at_yesI g s room first L W3 HR3.out i y HYY.out).mono ?_
  rintro e w4 ⟨rfl, n4, rfl⟩
  have k4 := HDW.out.b4.drewN n4
  have k5 := HDW.out.b5.drewN n4
  have k6 := HDW.out.b6.drewN n4
  obtain ⟨W4, hW4⟩ : ∃ W, W = W3.drewN n4 := ⟨_, rfl⟩
  have hq : RgI W4 g s room first L := by rw [hW4]; exact HDW.out.ring.drewN n4
  have hf5 : Fr (fun i => i = g ∨ i = s) W3 W4 := by rw [hW4]; exact (Fr.refl _ W3).drewN n4
  have kx : RX W4 (DE w D) A c L := by rw [hW4]; exact (HDW.out.rx.mono (E := DE w D) (fun i hi _ => .inl hi)).fr ((Fr.refl (fun _ => False) W3).drewN n4) (fun _ _ _ h => h)
  rw [← hW4] at k4 k5 k6 ⊢
  have m0 : W4.cell? ⟨w.heap.size, 0, none⟩ = some (.int .i64 (room : Int)) := (k4.cell 0).trans rfl
  have m1 : W4.cell? ⟨w.heap.size, 1, none⟩ = some (.slice A L.length c) := (k4.cell 1).trans rfl
  have e0 : W4.cell? ⟨w.heap.size + 1, 0, none⟩ = some (.int .i64 kd) := (k5.cell 0).trans rfl
  have e1 : W4.cell? ⟨w.heap.size + 1, 1, none⟩ = some (.int .i64 (i : Int)) := (k5.cell 1).trans rfl
  have hff := (((Fr.of_below HDW.out.bel).mono (S := fun i => i = g ∨ i = s) (fun i hi h => by omega)).trans hf5 (fun i _ h => h))
  obtain ⟨ad, rfl, hdb, hab, hcell⟩ := kx.2 (by omega)
  have hcy := hcell i y HYY.out
  have hdn : ad.block ≠ w.heap.size + 1 + 1 := by rcases hdb with h | h <;> omega
  have hst : ∀ (q : Addr), q.block ≠ w.heap.size + 1 + 1 → (((W4.setCell ⟨w.heap.size + 1 + 1, 0, none⟩ (.int .i64 (room : Int))).setCell ⟨w.heap.size + 1 + 1, 1, none⟩ (.slice (some ad) L.length c)).drew).cell? q = W4.cell? q := fun q hp => by
    show ((W4.setCell ⟨w.heap.size + 1 + 1, 0, none⟩ (.int .i64 (room : Int))).setCell ⟨w.heap.size + 1 + 1, 1, none⟩ (.slice (some ad) L.length c)).cell? q = _
    rw [World.cell?_setCell_other _ _ _ _ (fun e => hp (by subst e; rfl)), World.cell?_setCell_other _ _ _ _ (fun e => hp (by subst e; rfl))]
  have s0 := (hst ⟨w.heap.size, 0, none⟩ (by show w.heap.size ≠ _; omega)).trans m0
  have s1 := (hst ⟨w.heap.size, 1, none⟩ (by show w.heap.size ≠ _; omega)).trans m1
  have s2 := (hst ⟨w.heap.size + 1, 1, none⟩ (by show w.heap.size + 1 ≠ _; omega)).trans e1
  have s3 := (hst (ad.add i) (by rw [block_of_add]; exact hdn)).trans hcy
  have K6 := Lib.hid k6; have HQ := Lib.hid hq; have KX := Lib.hid kx; have HFF := Lib.hid hff
  have i0' : (0 : Int) ≤ (i : Int) := by omega
  have i1' : (i : Int) < (L.length : Int) := by omega
  clear k4 k5 k6 kx hq hf5 hff hW4 x0 x1 d0 d1 HR3 HDW hcell hst HYY
  go_wp2_with fail
  have t0 : W4.cell? ⟨w.heap.size + 1 + 1, 0, none⟩ = some (.int .i64 0) := (K6.out.cell 0).trans rfl
  have u0 : W4.frozen? ⟨w.heap.size + 1 + 1, 0, none⟩ = false := K6.out.frozen 0
  have t1 : W4.cell? ⟨w.heap.size + 1 + 1, 1, none⟩ = some (.slice none 0 0) := (K6.out.cell 1).trans rfl
  have u1 : W4.frozen? ⟨w.heap.size + 1 + 1, 1, none⟩ = false := K6.out.frozen 1
  go_region_held3 (fun w' => w'.cell? ⟨w.heap.size, 0, none⟩ = some (.int .i64 (room : Int)) ∧ w'.cell? ⟨w.heap.size, 1, none⟩ = some (.slice (some ad) L.length c) ∧ w'.cell? ⟨w.heap.size + 1, 1, none⟩ = some (.int .i64 (i : Int)) ∧ w'.cell? (ad.add i) = some (.int .i64 y))
    (first | with_reducible exact ⟨m0, m1, e1, hcy⟩ | with_reducible exact ⟨s0, s1, s2, s3⟩ | go_keep)
    (fail)
  all_goals
    have hE := does_end (D := D) (K6.out.drew) (HQ.out.drew) (KX.out.fr ((Fr.refl (fun _ => False) W4).drew) (fun _ _ _ h => h)) (n := L.length) (HFF.out.drew) hgs rfl
    have HE := Lib.hid hE
    clear hE s0 s1 s2 s3
    go_wp2_with fail
    refine bodyPost_ret (v := .tuple #[.agg #[.int .i64 (room : Int), .slice (some ad) L.length c], .bool true]) (res_cell_slot rfl _ _ (w.heap.size + 1 + 1) 27 _ (0, 0) _ _ rfl rfl HE.out.2 Try.underlying27 rfl (by kernel_rfl)) rfl HE.out.1
end Go.Proofs.Ythlaaeopohilmaa
