
/-
  Send, where none waits to receive.
-/
import Derived.Test.YtbgigkamlnchcaaChD
import Derived.Deep.RegionLawGrows
set_option linter.unusedVariables false
set_option linter.unusedSimpArgs false
namespace Go.Proofs.Ytbgigkamlnchcaa
open Go.RowKit Go.Shelf Plain

section
variable {w : World} {B : Nat} {h : ChH} {s : Ck} {K n : Nat}
/-- One number comes behind those of a row: the number stands in new memory. -/
theorem behind_one (w : World) (D : Nat → Prop) (A : Option Addr) (c : Nat) (l : List Int) (hr : RN w D A c l) (hK : l.length ≤ 1000000) (v : Int) (W0 : World) (T : TypeId) (hb : Below w.heap.size w W0) (hz : W0.heap.size = w.heap.size) :
    Calls Try.prog 35 #[.slice A l.length c, .slice (some ⟨w.heap.size, 0, none⟩) 1 1] (W0.alloc (.cells #[.int .i64 v] T)) fun e w' => ∃ A' c', e = .returned (.slice A' (l.length + 1) c') ∧ RN w' (fun i => w.heap.size ≤ i) A' c' (l ++ [v]) ∧ Below w.heap.size w w' := by
  refine behind_all w D A c l hr _ rfl hK _ 1 1 [v] rfl (by omega) (by omega) _ (hb.alloc (by omega) _) (fun j x hj => ?_)
  match j, hj with
  | 0, hj =>
    simp at hj
    subst hj
    have := (Blk.new W0 T #[.int .i64 v]).cell 0
    rw [hz] at this
    simpa [Addr.add] using this
theorem behind_two (w : World) (D : Nat → Prop) (A : Option Addr) (c : Nat) (l : List Int) (hr : RN w D A c l) (hK : l.length ≤ 1000000) (u v : Int) (W0 : World) (T : TypeId) (hb : Below w.heap.size w W0) (hz : W0.heap.size = w.heap.size) :
    Calls Try.prog 35 #[.slice A l.length c, .slice (some ⟨w.heap.size, 0, none⟩) 2 2] (W0.alloc (.cells #[.int .i64 u, .int .i64 v] T)) fun e w' => ∃ A' c', e = .returned (.slice A' (l.length + 2) c') ∧ RN w' (fun i => w.heap.size ≤ i) A' c' (l ++ [u, v]) ∧ Below w.heap.size w w' := by
  refine behind_all w D A c l hr _ rfl hK _ 2 2 [u, v] rfl (by omega) (by omega) _ (hb.alloc (by omega) _) (fun j x hj => ?_)
  have hblk := Blk.new W0 T #[.int .i64 u, .int .i64 v]
  rw [hz] at hblk
  match j, hj with
  | 0, hj =>
    simp at hj
    subst hj
    simpa [Addr.add] using hblk.cell 0
  | 1, hj =>
    simp at hj
    subst hj
    simpa [Addr.add] using hblk.cell 1
set_option maxRecDepth 100000 in
set_option maxHeartbeats 4000000 in
theorem send_room (H : ChM w B h s) (O : CkOk K n s) (hK : K ≤ 100000) (hN : n ≤ 1000000) (m : Nat) (hm : m < n) (room t v : Int) (ht : 0 ≤ t) (hq : gl s.rq m = []) (hr : ((gl s.bf m).length : Int) < room) :
    Calls Try.prog 20 #[.pointer (some ⟨h.g, 0, none⟩), .int .i64 (m : Int), .int .i64 room, .int .i64 t, .int .i64 v] w fun e w' => e = .returned (.tuple #[.int .i64 (-1), .bool true]) ∧ ChT w w' B h { s with bf := s.bf.set m (gl s.bf m ++ [v]) } := by
  have hh := has_yes H O m hm hN
  obtain ⟨b0, b1, b2⟩ := H.cells
  obtain ⟨q, qcap, A, c, f1, f2, f3, f4, f5, f6, f7⟩ := H.bf.at_ (i := m) (by rw [O.l1]; exact hm)
  rw [f1, O.l1] at b0
  have hrow := O.row m
  have hbh := fun W0 T hb hz => behind_one w _ A c _ f7 (by omega) v W0 T hb hz
  have hml : m < s.bf.length := by rw [O.l1]; exact hm
  have hfin : ∀ W A' c', Below w.heap.size w W → RN W (fun k => w.heap.size ≤ k) A' c' (gl s.bf m ++ [v]) → ChT w (W.setCell ⟨q, m, none⟩ (.slice A' ((gl s.bf m).length + 1) c')) B h { s with bf := s.bf.set m (gl s.bf m ++ [v]) } := by
    intro W A' c' hb hr
    have hM := H.below hb (Nat.le_refl _)
    have := hM.setB f1 hml (hr.mono (fun i hi _ => H.fresh hi))
    rw [show (gl s.bf m ++ [v]).length = (gl s.bf m).length + 1 by simp] at this
    exact ⟨this, (((Fr.refl h.W w).trans (Fr.of_below hb) (fun i hi e => by omega))).setCell (p := ⟨q, m, none⟩) (.inl (.inl f4)) _⟩
  have hgq := (H.wlt (.inl f4)).2.2
  have hgl := H.box.lt
  have hkeep : ∀ W, Below w.heap.size w W → W.cell? ⟨h.g, 4, none⟩ = some (.slice (some ⟨q, 0, none⟩) n qcap) ∧ W.cell? ⟨q, m, none⟩ = some (.slice A (gl s.bf m).length c) ∧ W.frozen? ⟨q, m, none⟩ = false := fun W hb =>
    ⟨(hb.cell (p := ⟨h.g, 4, none⟩) hgl).trans b0, (hb.cell (p := ⟨q, m, none⟩) f3).trans f5, (hb.frozen (p := ⟨q, m, none⟩) f3).trans (f6 m)⟩
  obtain ⟨r, rcap, Ar, cr, g1r, g2r, g3r, g4r, g5r, g6r, g7r⟩ := H.rq.at_ (i := m) (by rw [O.l3]; exact hm)
  rw [g1r, O.l3] at b2
  rw [hq, List.length_nil] at g5r
  have hsc : ∀ W, Below w.heap.size w W → W.cell? ⟨h.g, 4, none⟩ = some (.slice (some ⟨q, 0, none⟩) n qcap) := fun W hb => (hkeep W hb).1
  have HH := Lib.hid hh; have HF := Lib.hid hfin; have HB := Lib.hid hbh; have HKP := Lib.hid hkeep; have HSC := Lib.hid hsc
  clear hh hfin hbh hkeep hsc
  clear H O f1 f2 f4 f7 g1r g2r g4r g6r g7r hml hrow hq
  generalize h.g = g at *
  generalize (gl s.bf m).length = k at *
  have h0 : (m : Int) < (n : Int) := by omega
  have h1 : (0 : Int) ≤ (m : Int) := by omega
  have h2 : decide (t < 0) = false := by simp; omega
  have h3 : decide ((k : Int) < room) = true := by simpa using hr
  have f60 := f6 m
  have hgq1 : ¬ q = g := hgq
  have hgq2 : ¬ g = q := fun e => hgq e.symm
  go_enter Try.func20, Try.ntmps20
  go_wp2_with fail
  refine HH.out.mono ?_
  rintro e w1 ⟨rfl, j, rfl⟩
  go_wp2_with fail
  have hbd : Below w.heap.size w (w.drewN j).drew := (below_drews (Below.refl _ _) j).drew
  have hbd2 : Below w.heap.size w (w.drewN (j + 1)) := below_drews (Below.refl _ _) (j + 1)
  refine wp_region_noPanic ?_
  refine wp_region_held_drew (S := fun w' => w'.cell? ⟨g, 4, none⟩ = some (.slice (some ⟨q, 0, none⟩) n qcap)) (by kernel_rfl) (HSC.out _ hbd) (fun hHeld => ?_)
  refine wpAnyH_take (i := 0) (v := ?v1) rfl (by kernel_rfl) (by kernel_rfl) (by kernel_rfl) (fun _ _ _ h => h) (Or.inl ⟨by rfl, ?hy1⟩) (by assumption) ?rest1
  case hy1 => (intro w hSw; (try dsimp only at hSw); go_simp; try (with_reducible rfl))
  try simp only [Act.put, List.setIfInBounds_toArray, List.set_cons_zero, List.set_cons_succ]
  refine wpAnyH_take (i := 1) (v := ?v2) rfl (by kernel_rfl) (by kernel_rfl) (by kernel_rfl) (fun _ _ _ h => h) (Or.inl ⟨by rfl, ?hy2⟩) (by assumption) ?rest2
  case hy2 => (intro w hSw; (try dsimp only at hSw); go_simp; try (with_reducible rfl))
  try simp only [Act.put, List.setIfInBounds_toArray, List.set_cons_zero, List.set_cons_succ]
  refine wpAnyH_take (i := 2) (v := ?v3) rfl (by kernel_rfl) (by kernel_rfl) (by kernel_rfl) (fun _ _ _ h => h) (Or.inl ⟨by rfl, ?hy3⟩) (by assumption) ?rest3
  case hy3 => (intro w hSw; (try dsimp only at hSw); go_simp; try (with_reducible rfl))
  try simp only [Act.put, List.setIfInBounds_toArray, List.set_cons_zero, List.set_cons_succ]
  refine wpAnyH_take (i := 3) (v := ?v4) rfl (by kernel_rfl) (by kernel_rfl) (by kernel_rfl) (fun _ _ _ h => h) (Or.inl ⟨by rfl, ?hy4⟩) (by assumption) ?rest4
  case hy4 => (intro w hSw; (try dsimp only at hSw); go_simp; try (with_reducible rfl))
  try simp only [Act.put, List.setIfInBounds_toArray, List.set_cons_zero, List.set_cons_succ]
  refine wpAnyH_take (i := 4) (v := ?v5) rfl (by kernel_rfl) (by kernel_rfl) (by kernel_rfl) (fun _ _ _ h => h) (Or.inl ⟨by rfl, ?hy5⟩) (by assumption) ?rest5
  case hy5 => (intro w hSw; (try dsimp only at hSw); go_simp; try (with_reducible rfl))
  try simp only [Act.put, List.setIfInBounds_toArray, List.set_cons_zero, List.set_cons_succ]
  refine wpAnyH_take (i := 5) (v := ?v6) rfl (by kernel_rfl) (by kernel_rfl) (by kernel_rfl) (fun _ _ _ h => h) (Or.inl ⟨by rfl, ?hy6⟩) (by assumption) ?rest6
  case hy6 => (intro w hSw; (try dsimp only at hSw); go_simp; try (with_reducible rfl))
  try simp only [Act.put, List.setIfInBounds_toArray, List.set_cons_zero, List.set_cons_succ]
  refine wpAnyH_take (i := 6) (v := ?v7) rfl (by kernel_rfl) (by kernel_rfl) (by kernel_rfl) (fun _ _ _ h => h) (Or.inl ⟨by rfl, ?hy7⟩) (by assumption) ?rest7
  case hy7 => (intro w hSw; (try dsimp only at hSw); go_simp; try (with_reducible rfl))
  try simp only [Act.put, List.setIfInBounds_toArray, List.set_cons_zero, List.set_cons_succ]
  refine wpAnyH_take (i := 7) (v := ?v8) rfl (by kernel_rfl) (by kernel_rfl) (by kernel_rfl) (fun _ _ _ h => h) (Or.inl ⟨by rfl, ?hy8⟩) (by assumption) ?rest8
  case hy8 => (intro w hSw; (try dsimp only at hSw); go_simp; try (with_reducible rfl))
  try simp only [Act.put, List.setIfInBounds_toArray, List.set_cons_zero, List.set_cons_succ]
  refine wpAnyH_take (i := 8) (v := ?v9) rfl (by kernel_rfl) (by kernel_rfl) (by kernel_rfl) (fun _ _ _ h => h) (Or.inl ⟨by rfl, ?hy9⟩) (by assumption) ?rest9
  case hy9 => (intro w hSw; (try dsimp only at hSw); go_simp; try (with_reducible rfl))
  try simp only [Act.put, List.setIfInBounds_toArray, List.set_cons_zero, List.set_cons_succ]
  refine wpAnyH_take (i := 9) (v := ?v10) rfl (by kernel_rfl) (by kernel_rfl) (by kernel_rfl) (fun _ _ _ h => h) (Or.inl ⟨by rfl, ?hy10⟩) (by assumption) ?rest10
  case hy10 => (intro w hSw; (try dsimp only at hSw); go_simp; try (with_reducible rfl))
  try simp only [Act.put, List.setIfInBounds_toArray, List.set_cons_zero, List.set_cons_succ]
  refine wpAnyH_take (i := 10) (v := ?v11) rfl (by kernel_rfl) (by kernel_rfl) (by kernel_rfl) (fun _ _ _ h => h) (Or.inl ⟨by rfl, ?hy11⟩) (by assumption) ?rest11
  case hy11 => (intro w hSw; (try dsimp only at hSw); go_simp; try (with_reducible rfl))
  try simp only [Act.put, List.setIfInBounds_toArray, List.set_cons_zero, List.set_cons_succ]
  refine wpAnyH_take (i := 12) (v := ?v12) rfl (by kernel_rfl) (by kernel_rfl) (by kernel_rfl) (fun _ _ _ h => h) (Or.inl ⟨by rfl, ?hy12⟩) (by assumption) ?rest12
  case hy12 => (intro w hSw; (try dsimp only at hSw); go_simp; try (with_reducible rfl))
  try simp only [Act.put, List.setIfInBounds_toArray, List.set_cons_zero, List.set_cons_succ]
  refine wpAnyH_ready (rs := [11, 13]) (by kernel_rfl) (by simp) ?_
  refine AllReadyH.cons rfl (fun K hK => ?_) (AllReadyH.cons rfl (fun K hK => ?_) AllReadyH.nil)
  · go_simp
    refine hK.out _ _ ?_ (fun hHeld => ?_)
    · exact HSC.out _ hbd
    clear hK K
    try simp only [Act.put, List.setIfInBounds_toArray, List.set_cons_zero, List.set_cons_succ]
    refine wpAnyH_ready (rs := [13]) (by kernel_rfl) (by simp) ?_
    refine AllReadyH.cons rfl (fun K hK => ?_) AllReadyH.nil
    go_simp
    refine hK.out _ _ ?_ (fun hHeld => ?_)
    · exact HSC.out _ (hbd.alloc (by simp) _)
    clear hK K
    try simp only [Act.put, List.setIfInBounds_toArray, List.set_cons_zero, List.set_cons_succ]
    refine wpAnyH_ready (rs := [14]) (by kernel_rfl) (by simp) ?_
    refine AllReadyH.cons rfl (fun K hK => ?_) AllReadyH.nil
    go_simp
    with_reducible refine (HB.out (w.drewN (j + 1)) _ hbd2 rfl).mono ?_
    rintro e w1 ⟨A', c', rfl, hr, hb⟩
    try go_simp
    refine hK.out _ _ ?_ (fun hHeld => ?_)
    · exact HSC.out _ hb
    clear hK K
    try simp only [Act.put, List.setIfInBounds_toArray, List.set_cons_zero, List.set_cons_succ]
    obtain ⟨z1, z2, z3⟩ := HKP.out w1 hb
    have HR := Lib.hid hr; have HBL := Lib.hid hb
    clear hr hb
    refine wpAnyH_take (i := 15) (v := ?v13) rfl (by kernel_rfl) (by kernel_rfl) (by kernel_rfl) (fun _ _ _ h => h) (Or.inl ⟨by rfl, ?hy13⟩) (by assumption) ?rest13
    case hy13 => (intro w hSw; (try dsimp only at hSw); go_simp; try (with_reducible rfl))
    try simp only [Act.put, List.setIfInBounds_toArray, List.set_cons_zero, List.set_cons_succ]
    refine wpAnyH_ready (rs := [16]) (by kernel_rfl) (by simp) ?_
    refine AllReadyH.cons rfl (fun K hK => ?_) AllReadyH.nil
    go_simp
    refine hK.out _ _ ?_ (fun hHeld => ?_)
    · exact (World.cell?_setCell_far _ _ _ _ (by show q ≠ g; exact hgq1)).trans (HSC.out _ HBL.out)
    clear hK K
    try simp only [Act.put, List.setIfInBounds_toArray, List.set_cons_zero, List.set_cons_succ]
    refine wpAnyH_done (by kernel_rfl) ?_ _
    refine NoPanic.normal ?_
    go_wp2_with fail
    go_ret2
    exact ⟨rfl, HF.out _ _ _ HBL.out HR.out⟩
  · go_simp
    refine hK.out _ _ ?_ (fun hHeld => ?_)
    · exact HSC.out _ (hbd.alloc (by simp) _)
    clear hK K
    try simp only [Act.put, List.setIfInBounds_toArray, List.set_cons_zero, List.set_cons_succ]
    obtain ⟨y1, y2, y3⟩ := HKP.out _ (hbd.alloc (by simp) (.cells #[.int .i64 v] 3))
    obtain ⟨y4, y5, y6⟩ := HKP.out _ (hbd2.alloc (by simp) (.cells #[.int .i64 v] 3))
    refine wpAnyH_ready (rs := [11]) (by kernel_rfl) (by simp) ?_
    refine AllReadyH.cons rfl (fun K hK => ?_) AllReadyH.nil
    go_simp
    refine hK.out _ _ ?_ (fun hHeld => ?_)
    · exact HSC.out _ (hbd.alloc (by simp) _)
    clear hK K
    try simp only [Act.put, List.setIfInBounds_toArray, List.set_cons_zero, List.set_cons_succ]
    refine wpAnyH_ready (rs := [14]) (by kernel_rfl) (by simp) ?_
    refine AllReadyH.cons rfl (fun K hK => ?_) AllReadyH.nil
    go_simp
    with_reducible refine (HB.out (w.drewN (j + 1)) _ hbd2 rfl).mono ?_
    rintro e w1 ⟨A', c', rfl, hr, hb⟩
    try go_simp
    refine hK.out _ _ ?_ (fun hHeld => ?_)
    · exact HSC.out _ hb
    clear hK K
    try simp only [Act.put, List.setIfInBounds_toArray, List.set_cons_zero, List.set_cons_succ]
    obtain ⟨z1, z2, z3⟩ := HKP.out w1 hb
    have HR := Lib.hid hr; have HBL := Lib.hid hb
    clear hr hb
    refine wpAnyH_take (i := 15) (v := ?v14) rfl (by kernel_rfl) (by kernel_rfl) (by kernel_rfl) (fun _ _ _ h => h) (Or.inl ⟨by rfl, ?hy14⟩) (by assumption) ?rest14
    case hy14 => (intro w hSw; (try dsimp only at hSw); go_simp; try (with_reducible rfl))
    try simp only [Act.put, List.setIfInBounds_toArray, List.set_cons_zero, List.set_cons_succ]
    refine wpAnyH_ready (rs := [16]) (by kernel_rfl) (by simp) ?_
    refine AllReadyH.cons rfl (fun K hK => ?_) AllReadyH.nil
    go_simp
    refine hK.out _ _ ?_ (fun hHeld => ?_)
    · exact (World.cell?_setCell_far _ _ _ _ (by show q ≠ g; exact hgq1)).trans (HSC.out _ HBL.out)
    clear hK K
    try simp only [Act.put, List.setIfInBounds_toArray, List.set_cons_zero, List.set_cons_succ]
    refine wpAnyH_done (by kernel_rfl) ?_ _
    refine NoPanic.normal ?_
    go_wp2_with fail
    go_ret2
    exact ⟨rfl, HF.out _ _ _ HBL.out HR.out⟩
set_option maxRecDepth 100000 in
set_option maxHeartbeats 4000000 in
theorem send_wait (H : ChM w B h s) (O : CkOk K n s) (hK : K ≤ 100000) (hN : n ≤ 1000000) (m : Nat) (hm : m < n) (room t v : Int) (ht : 0 ≤ t) (hq : gl s.rq m = []) (hr : ¬ ((gl s.bf m).length : Int) < room) :
    Calls Try.prog 20 #[.pointer (some ⟨h.g, 0, none⟩), .int .i64 (m : Int), .int .i64 room, .int .i64 t, .int .i64 v] w fun e w' => e = .returned (.tuple #[.int .i64 (-1), .bool false]) ∧ ChT w w' B h { s with sq := s.sq.set m (gl s.sq m ++ [t, v]) } := by
  have hh := has_yes H O m hm hN
  obtain ⟨b0, b1, b2⟩ := H.cells
  obtain ⟨q, qcap, A, c, f1, f2, f3, f4, f5, f6, f7⟩ := H.sq.at_ (i := m) (by rw [O.l2]; exact hm)
  rw [f1, O.l2] at b1
  have hrow := O.row m
  have hbh := fun W0 T hb hz => behind_two w _ A c _ f7 (by omega) t v W0 T hb hz
  have hml : m < s.sq.length := by rw [O.l2]; exact hm
  have hfin : ∀ W A' c', Below w.heap.size w W → RN W (fun k => w.heap.size ≤ k) A' c' (gl s.sq m ++ [t, v]) → ChT w (W.setCell ⟨q, m, none⟩ (.slice A' ((gl s.sq m).length + 2) c')) B h { s with sq := s.sq.set m (gl s.sq m ++ [t, v]) } := by
    intro W A' c' hb hr
    have hM := H.below hb (Nat.le_refl _)
    have := hM.setS f1 hml (hr.mono (fun i hi _ => H.fresh hi))
    rw [show (gl s.sq m ++ [t, v]).length = (gl s.sq m).length + 2 by simp] at this
    exact ⟨this, (((Fr.refl h.W w).trans (Fr.of_below hb) (fun i hi e => by omega))).setCell (p := ⟨q, m, none⟩) (.inl (.inr (.inl f4))) _⟩
  have hgq := (H.wlt (.inr (.inl f4))).2.2
  have hgl := H.box.lt
  have hkeep : ∀ W, Below w.heap.size w W → W.cell? ⟨h.g, 8, none⟩ = some (.slice (some ⟨q, 0, none⟩) n qcap) ∧ W.cell? ⟨q, m, none⟩ = some (.slice A (gl s.sq m).length c) ∧ W.frozen? ⟨q, m, none⟩ = false := fun W hb =>
    ⟨(hb.cell (p := ⟨h.g, 8, none⟩) hgl).trans b1, (hb.cell (p := ⟨q, m, none⟩) f3).trans f5, (hb.frozen (p := ⟨q, m, none⟩) f3).trans (f6 m)⟩
  obtain ⟨r, rcap, Ar, cr, g1r, g2r, g3r, g4r, g5r, g6r, g7r⟩ := H.rq.at_ (i := m) (by rw [O.l3]; exact hm)
  rw [g1r, O.l3] at b2
  obtain ⟨p, pcap, Ap, cp, g1p, g2p, g3p, g4p, g5p, g6p, g7p⟩ := H.bf.at_ (i := m) (by rw [O.l1]; exact hm)
  rw [g1p, O.l1] at b0
  rw [hq, List.length_nil] at g5r
  have hsc : ∀ W, Below w.heap.size w W → W.cell? ⟨h.g, 8, none⟩ = some (.slice (some ⟨q, 0, none⟩) n qcap) := fun W hb => (hkeep W hb).1
  have HH := Lib.hid hh; have HF := Lib.hid hfin; have HB := Lib.hid hbh; have HKP := Lib.hid hkeep; have HSC := Lib.hid hsc
  clear hh hfin hbh hkeep hsc
  clear H O f1 f2 f4 f7 g1r g2r g4r g6r g7r hml hrow hq g1p g2p g4p g6p g7p
  generalize h.g = g at *
  generalize (gl s.bf m).length = k at *
  generalize (gl s.sq m).length = k2 at *
  have h0 : (m : Int) < (n : Int) := by omega
  have h1 : (0 : Int) ≤ (m : Int) := by omega
  have h2 : decide (t < 0) = false := by simp; omega
  have h3 : decide ((k : Int) < room) = false := by simpa using hr
  have f60 := f6 m
  have hgq1 : ¬ q = g := hgq
  have hgq2 : ¬ g = q := fun e => hgq e.symm
  go_enter Try.func20, Try.ntmps20
  go_wp2_with fail
  refine HH.out.mono ?_
  rintro e w1 ⟨rfl, j, rfl⟩
  go_wp2_with fail
  have hbd : Below w.heap.size w (w.drewN j).drew := (below_drews (Below.refl _ _) j).drew
  have hbd2 : Below w.heap.size w (w.drewN (j + 1)) := below_drews (Below.refl _ _) (j + 1)
  refine wp_region_noPanic ?_
  refine wp_region_held_drew (S := fun w' => w'.cell? ⟨g, 8, none⟩ = some (.slice (some ⟨q, 0, none⟩) n qcap)) (by kernel_rfl) (HSC.out _ hbd) (fun hHeld => ?_)
  refine wpAnyH_take (i := 0) (v := ?v15) rfl (by kernel_rfl) (by kernel_rfl) (by kernel_rfl) (fun _ _ _ h => h) (Or.inl ⟨by rfl, ?hy15⟩) (by assumption) ?rest15
  case hy15 => (intro w hSw; (try dsimp only at hSw); go_simp; try (with_reducible rfl))
  try simp only [Act.put, List.setIfInBounds_toArray, List.set_cons_zero, List.set_cons_succ]
  refine wpAnyH_take (i := 1) (v := ?v16) rfl (by kernel_rfl) (by kernel_rfl) (by kernel_rfl) (fun _ _ _ h => h) (Or.inl ⟨by rfl, ?hy16⟩) (by assumption) ?rest16
  case hy16 => (intro w hSw; (try dsimp only at hSw); go_simp; try (with_reducible rfl))
  try simp only [Act.put, List.setIfInBounds_toArray, List.set_cons_zero, List.set_cons_succ]
  refine wpAnyH_take (i := 2) (v := ?v17) rfl (by kernel_rfl) (by kernel_rfl) (by kernel_rfl) (fun _ _ _ h => h) (Or.inl ⟨by rfl, ?hy17⟩) (by assumption) ?rest17
  case hy17 => (intro w hSw; (try dsimp only at hSw); go_simp; try (with_reducible rfl))
  try simp only [Act.put, List.setIfInBounds_toArray, List.set_cons_zero, List.set_cons_succ]
  refine wpAnyH_take (i := 3) (v := ?v18) rfl (by kernel_rfl) (by kernel_rfl) (by kernel_rfl) (fun _ _ _ h => h) (Or.inl ⟨by rfl, ?hy18⟩) (by assumption) ?rest18
  case hy18 => (intro w hSw; (try dsimp only at hSw); go_simp; try (with_reducible rfl))
  try simp only [Act.put, List.setIfInBounds_toArray, List.set_cons_zero, List.set_cons_succ]
  refine wpAnyH_take (i := 4) (v := ?v19) rfl (by kernel_rfl) (by kernel_rfl) (by kernel_rfl) (fun _ _ _ h => h) (Or.inl ⟨by rfl, ?hy19⟩) (by assumption) ?rest19
  case hy19 => (intro w hSw; (try dsimp only at hSw); go_simp; try (with_reducible rfl))
  try simp only [Act.put, List.setIfInBounds_toArray, List.set_cons_zero, List.set_cons_succ]
  refine wpAnyH_take (i := 5) (v := ?v20) rfl (by kernel_rfl) (by kernel_rfl) (by kernel_rfl) (fun _ _ _ h => h) (Or.inl ⟨by rfl, ?hy20⟩) (by assumption) ?rest20
  case hy20 => (intro w hSw; (try dsimp only at hSw); go_simp; try (with_reducible rfl))
  try simp only [Act.put, List.setIfInBounds_toArray, List.set_cons_zero, List.set_cons_succ]
  refine wpAnyH_take (i := 6) (v := ?v21) rfl (by kernel_rfl) (by kernel_rfl) (by kernel_rfl) (fun _ _ _ h => h) (Or.inl ⟨by rfl, ?hy21⟩) (by assumption) ?rest21
  case hy21 => (intro w hSw; (try dsimp only at hSw); go_simp; try (with_reducible rfl))
  try simp only [Act.put, List.setIfInBounds_toArray, List.set_cons_zero, List.set_cons_succ]
  refine wpAnyH_take (i := 7) (v := ?v22) rfl (by kernel_rfl) (by kernel_rfl) (by kernel_rfl) (fun _ _ _ h => h) (Or.inl ⟨by rfl, ?hy22⟩) (by assumption) ?rest22
  case hy22 => (intro w hSw; (try dsimp only at hSw); go_simp; try (with_reducible rfl))
  try simp only [Act.put, List.setIfInBounds_toArray, List.set_cons_zero, List.set_cons_succ]
  refine wpAnyH_take (i := 8) (v := ?v23) rfl (by kernel_rfl) (by kernel_rfl) (by kernel_rfl) (fun _ _ _ h => h) (Or.inl ⟨by rfl, ?hy23⟩) (by assumption) ?rest23
  case hy23 => (intro w hSw; (try dsimp only at hSw); go_simp; try (with_reducible rfl))
  try simp only [Act.put, List.setIfInBounds_toArray, List.set_cons_zero, List.set_cons_succ]
  refine wpAnyH_take (i := 9) (v := ?v24) rfl (by kernel_rfl) (by kernel_rfl) (by kernel_rfl) (fun _ _ _ h => h) (Or.inl ⟨by rfl, ?hy24⟩) (by assumption) ?rest24
  case hy24 => (intro w hSw; (try dsimp only at hSw); go_simp; try (with_reducible rfl))
  try simp only [Act.put, List.setIfInBounds_toArray, List.set_cons_zero, List.set_cons_succ]
  refine wpAnyH_take (i := 10) (v := ?v25) rfl (by kernel_rfl) (by kernel_rfl) (by kernel_rfl) (fun _ _ _ h => h) (Or.inl ⟨by rfl, ?hy25⟩) (by assumption) ?rest25
  case hy25 => (intro w hSw; (try dsimp only at hSw); go_simp; try (with_reducible rfl))
  try simp only [Act.put, List.setIfInBounds_toArray, List.set_cons_zero, List.set_cons_succ]
  refine wpAnyH_take (i := 12) (v := ?v26) rfl (by kernel_rfl) (by kernel_rfl) (by kernel_rfl) (fun _ _ _ h => h) (Or.inl ⟨by rfl, ?hy26⟩) (by assumption) ?rest26
  case hy26 => (intro w hSw; (try dsimp only at hSw); go_simp; try (with_reducible rfl))
  try simp only [Act.put, List.setIfInBounds_toArray, List.set_cons_zero, List.set_cons_succ]
  refine wpAnyH_take (i := 13) (v := ?v27) rfl (by kernel_rfl) (by kernel_rfl) (by kernel_rfl) (fun _ _ _ h => h) (Or.inl ⟨by rfl, ?hy27⟩) (by assumption) ?rest27
  case hy27 => (intro w hSw; (try dsimp only at hSw); go_simp; try (with_reducible rfl))
  try simp only [Act.put, List.setIfInBounds_toArray, List.set_cons_zero, List.set_cons_succ]
  refine wpAnyH_ready (rs := [11, 14]) (by kernel_rfl) (by simp) ?_
  refine AllReadyH.cons rfl (fun K hK => ?_) (AllReadyH.cons rfl (fun K hK => ?_) AllReadyH.nil)
  · go_simp
    refine hK.out _ _ ?_ (fun hHeld => ?_)
    · exact HSC.out _ hbd
    clear hK K
    try simp only [Act.put, List.setIfInBounds_toArray, List.set_cons_zero, List.set_cons_succ]
    refine wpAnyH_ready (rs := [14]) (by kernel_rfl) (by simp) ?_
    refine AllReadyH.cons rfl (fun K hK => ?_) AllReadyH.nil
    go_simp
    refine hK.out _ _ ?_ (fun hHeld => ?_)
    · exact HSC.out _ (hbd.alloc (by simp) _)
    clear hK K
    try simp only [Act.put, List.setIfInBounds_toArray, List.set_cons_zero, List.set_cons_succ]
    refine wpAnyH_ready (rs := [15]) (by kernel_rfl) (by simp) ?_
    refine AllReadyH.cons rfl (fun K hK => ?_) AllReadyH.nil
    go_simp
    with_reducible refine (HB.out (w.drewN (j + 1)) _ hbd2 rfl).mono ?_
    rintro e w1 ⟨A', c', rfl, hr, hb⟩
    try go_simp
    refine hK.out _ _ ?_ (fun hHeld => ?_)
    · exact HSC.out _ hb
    clear hK K
    try simp only [Act.put, List.setIfInBounds_toArray, List.set_cons_zero, List.set_cons_succ]
    obtain ⟨z1, z2, z3⟩ := HKP.out w1 hb
    have HR := Lib.hid hr; have HBL := Lib.hid hb
    clear hr hb
    refine wpAnyH_take (i := 16) (v := ?v28) rfl (by kernel_rfl) (by kernel_rfl) (by kernel_rfl) (fun _ _ _ h => h) (Or.inl ⟨by rfl, ?hy28⟩) (by assumption) ?rest28
    case hy28 => (intro w hSw; (try dsimp only at hSw); go_simp; try (with_reducible rfl))
    try simp only [Act.put, List.setIfInBounds_toArray, List.set_cons_zero, List.set_cons_succ]
    refine wpAnyH_ready (rs := [17]) (by kernel_rfl) (by simp) ?_
    refine AllReadyH.cons rfl (fun K hK => ?_) AllReadyH.nil
    go_simp
    refine hK.out _ _ ?_ (fun hHeld => ?_)
    · exact (World.cell?_setCell_far _ _ _ _ (by show q ≠ g; exact hgq1)).trans (HSC.out _ HBL.out)
    clear hK K
    try simp only [Act.put, List.setIfInBounds_toArray, List.set_cons_zero, List.set_cons_succ]
    refine wpAnyH_done (by kernel_rfl) ?_ _
    refine NoPanic.normal ?_
    go_wp2_with fail
    go_ret2
    exact ⟨rfl, HF.out _ _ _ HBL.out HR.out⟩
  · go_simp
    refine hK.out _ _ ?_ (fun hHeld => ?_)
    · exact HSC.out _ (hbd.alloc (by simp) _)
    clear hK K
    try simp only [Act.put, List.setIfInBounds_toArray, List.set_cons_zero, List.set_cons_succ]
    obtain ⟨y1, y2, y3⟩ := HKP.out _ (hbd.alloc (by simp) (.cells #[.int .i64 t, .int .i64 v] 3))
    obtain ⟨y4, y5, y6⟩ := HKP.out _ (hbd2.alloc (by simp) (.cells #[.int .i64 t, .int .i64 v] 3))
    refine wpAnyH_ready (rs := [11]) (by kernel_rfl) (by simp) ?_
    refine AllReadyH.cons rfl (fun K hK => ?_) AllReadyH.nil
    go_simp
    refine hK.out _ _ ?_ (fun hHeld => ?_)
    · exact HSC.out _ (hbd.alloc (by simp) _)
    clear hK K
    try simp only [Act.put, List.setIfInBounds_toArray, List.set_cons_zero, List.set_cons_succ]
    refine wpAnyH_ready (rs := [15]) (by kernel_rfl) (by simp) ?_
    refine AllReadyH.cons rfl (fun K hK => ?_) AllReadyH.nil
    go_simp
    with_reducible refine (HB.out (w.drewN (j + 1)) _ hbd2 rfl).mono ?_
    rintro e w1 ⟨A', c', rfl, hr, hb⟩
    try go_simp
    refine hK.out _ _ ?_ (fun hHeld => ?_)
    · exact HSC.out _ hb
    clear hK K
    try simp only [Act.put, List.setIfInBounds_toArray, List.set_cons_zero, List.set_cons_succ]
    obtain ⟨z1, z2, z3⟩ := HKP.out w1 hb
    have HR := Lib.hid hr; have HBL := Lib.hid hb
    clear hr hb
    refine wpAnyH_take (i := 16) (v := ?v29) rfl (by kernel_rfl) (by kernel_rfl) (by kernel_rfl) (fun _ _ _ h => h) (Or.inl ⟨by rfl, ?hy29⟩) (by assumption) ?rest29
    case hy29 => (intro w hSw; (try dsimp only at hSw); go_simp; try (with_reducible rfl))
    try simp only [Act.put, List.setIfInBounds_toArray, List.set_cons_zero, List.set_cons_succ]
    refine wpAnyH_ready (rs := [17]) (by kernel_rfl) (by simp) ?_
    refine AllReadyH.cons rfl (fun K hK => ?_) AllReadyH.nil
    go_simp
    refine hK.out _ _ ?_ (fun hHeld => ?_)
    · exact (World.cell?_setCell_far _ _ _ _ (by show q ≠ g; exact hgq1)).trans (HSC.out _ HBL.out)
    clear hK K
    try simp only [Act.put, List.setIfInBounds_toArray, List.set_cons_zero, List.set_cons_succ]
    refine wpAnyH_done (by kernel_rfl) ?_ _
    refine NoPanic.normal ?_
    go_wp2_with fail
    go_ret2
    exact ⟨rfl, HF.out _ _ _ HBL.out HR.out⟩
end
end Go.Proofs.Ytbgigkamlnchcaa
