
/-
  Recv.
-/
import Derived.Test.YtbgigkamlnchcaaChF
import Derived.Deep.RegionLawGrows
set_option linter.unusedVariables false
set_option linter.unusedSimpArgs false
namespace Go.Proofs.Ytbgigkamlnchcaa
open Go.RowKit Go.Shelf Plain

section
variable {w : World} {B : Nat} {h : ChH} {s : Ck} {K n : Nat}
set_option maxRecDepth 100000 in
set_option maxHeartbeats 4000000 in
/-- Where nothing lies behind admit: the thread waits. -/
theorem recv_wait {w00 : World} {s00 : Ck} (H00 : ChM w00 B h s00) (O00 : CkOk K n s00) (hK : K ≤ 100000) (hN : n ≤ 1000000) (m : Nat) (hm : m < n) (t : Int) (ht : 0 ≤ t) (hq : gl (admitV s00 m).1.bf m = []) :
    Calls Try.prog 21 #[.pointer (some ⟨h.g, 0, none⟩), .int .i64 (m : Int), .int .i64 t] w00 fun e w' => e = .returned (.tuple #[.int .i64 0, .int .i64 (-1), .bool false]) ∧ ChT w00 w' B h { (admitV s00 m).1 with rq := (admitV s00 m).1.rq.set m (gl (admitV s00 m).1.rq m ++ [t]) } := by
  have hh := has_yes H00 O00 m hm hN
  have had := fun j => admit_any (H00.drewN j) O00 hK hN m hm
  have hfr : ∀ j w' s', ChT (w00.drewN j) w' B h s' → ChT w00 w' B h s' := fun j w' s' hT => ⟨hT.1, ((Fr.refl h.W w00).drewN j).trans hT.2 (fun _ _ h => h)⟩
  have O := O00.admit hm
  generalize (admitV s00 m).1 = s at *
  generalize (admitV s00 m).2 = kk at *
  have HH := Lib.hid hh; have HAD := Lib.hid had; have HFR := Lib.hid hfr; have HO := Lib.hid O
  clear hh had hfr H00 O00 O
  have h0 : (m : Int) < (n : Int) := by omega
  have h1 : (0 : Int) ≤ (m : Int) := by omega
  have h2 : decide (t < 0) = false := by simp; omega
  go_enter Try.func21, Try.ntmps21
  go_wp2_with fail
  refine HH.out.mono ?_
  rintro e w1 ⟨rfl, j, rfl⟩
  go_wp2_with fail
  refine (HAD.out j).mono ?_
  rintro e w ⟨rfl, hT⟩
  have hW := fun w' s' (hT2 : ChT w w' B h s') => (HFR.out j w s hT).trans hT2
  have H := hT.1
  have O := HO.out
  have HW := Lib.hid hW
  clear hT hW HFR HAD HH HO
  obtain ⟨b0, b1, b2⟩ := H.cells
  obtain ⟨q, qcap, A, c, f1, f2, f3, f4, f5, f6, f7⟩ := H.rq.at_ (i := m) (by rw [O.l3]; exact hm)
  rw [f1, O.l3] at b2
  have hrow := O.row m
  have hbh := fun W0 T hb hz => behind_one w _ A c _ f7 (by omega) t W0 T hb hz
  have hml : m < s.rq.length := by rw [O.l3]; exact hm
  have hfin : ∀ W A' c', Below w.heap.size w W → RN W (fun k => w.heap.size ≤ k) A' c' (gl s.rq m ++ [t]) → ChT w (W.setCell ⟨q, m, none⟩ (.slice A' ((gl s.rq m).length + 1) c')) B h { s with rq := s.rq.set m (gl s.rq m ++ [t]) } := by
    intro W A' c' hb hr
    have hM := H.below hb (Nat.le_refl _)
    have := hM.setR f1 hml (hr.mono (fun i hi _ => H.fresh hi))
    rw [show (gl s.rq m ++ [t]).length = (gl s.rq m).length + 1 by simp] at this
    exact ⟨this, (((Fr.refl h.W w).trans (Fr.of_below hb) (fun i hi e => by omega))).setCell (p := ⟨q, m, none⟩) (.inl (.inr (.inr f4))) _⟩
  have hgq := (H.wlt (.inr (.inr f4))).2.2
  have hgl := H.box.lt
  have hkeep : ∀ W, Below w.heap.size w W → W.cell? ⟨h.g, 9, none⟩ = some (.slice (some ⟨q, 0, none⟩) n qcap) ∧ W.cell? ⟨q, m, none⟩ = some (.slice A (gl s.rq m).length c) ∧ W.frozen? ⟨q, m, none⟩ = false := fun W hb =>
    ⟨(hb.cell (p := ⟨h.g, 9, none⟩) hgl).trans b2, (hb.cell (p := ⟨q, m, none⟩) f3).trans f5, (hb.frozen (p := ⟨q, m, none⟩) f3).trans (f6 m)⟩
  obtain ⟨p, pcap, Ap, cp, g1, g2, g3, g4, g5, g6, g7⟩ := H.bf.at_ (i := m) (by rw [O.l1]; exact hm)
  rw [g1, O.l1] at b0
  rw [hq, List.length_nil] at g5
  have hsc : ∀ W, Below w.heap.size w W → W.cell? ⟨h.g, 9, none⟩ = some (.slice (some ⟨q, 0, none⟩) n qcap) := fun W hb => (hkeep W hb).1
  have HF := Lib.hid hfin; have HB := Lib.hid hbh; have HKP := Lib.hid hkeep; have HSC := Lib.hid hsc
  clear H O hfin hbh hkeep hsc f1 f2 f4 f7 hml hrow hq g1 g2 g4 g6 g7 b1
  generalize (gl s.rq m).length = k at *
  have f60 := f6 m
  have hgq1 : ¬ q = h.g := hgq
  have hgq2 : ¬ h.g = q := fun e => hgq e.symm
  go_wp2_with fail
  have hbd : Below w.heap.size w w.drew := (Below.refl _ _).drew
  have hbd2 : Below w.heap.size w w.drew := (Below.refl _ _).drew
  refine wp_region_noPanic ?_
  refine wp_region_held_drew (S := fun w' => w'.cell? ⟨h.g, 9, none⟩ = some (.slice (some ⟨q, 0, none⟩) n qcap)) (by kernel_rfl) (HSC.out _ hbd) (fun hHeld => ?_)
  refine wpAnyH_take (i := 0) (v := ?v46) rfl (by kernel_rfl) (by kernel_rfl) (by kernel_rfl) (fun _ _ _ h => h) (Or.inl ⟨by rfl, ?hy46⟩) (by assumption) ?rest46
  case hy46 => (intro w hSw; (try dsimp only at hSw); go_simp; try (with_reducible rfl))
  try simp only [Act.put, List.setIfInBounds_toArray, List.set_cons_zero, List.set_cons_succ]
  refine wpAnyH_take (i := 1) (v := ?v47) rfl (by kernel_rfl) (by kernel_rfl) (by kernel_rfl) (fun _ _ _ h => h) (Or.inl ⟨by rfl, ?hy47⟩) (by assumption) ?rest47
  case hy47 => (intro w hSw; (try dsimp only at hSw); go_simp; try (with_reducible rfl))
  try simp only [Act.put, List.setIfInBounds_toArray, List.set_cons_zero, List.set_cons_succ]
  refine wpAnyH_take (i := 2) (v := ?v48) rfl (by kernel_rfl) (by kernel_rfl) (by kernel_rfl) (fun _ _ _ h => h) (Or.inl ⟨by rfl, ?hy48⟩) (by assumption) ?rest48
  case hy48 => (intro w hSw; (try dsimp only at hSw); go_simp; try (with_reducible rfl))
  try simp only [Act.put, List.setIfInBounds_toArray, List.set_cons_zero, List.set_cons_succ]
  refine wpAnyH_take (i := 3) (v := ?v49) rfl (by kernel_rfl) (by kernel_rfl) (by kernel_rfl) (fun _ _ _ h => h) (Or.inl ⟨by rfl, ?hy49⟩) (by assumption) ?rest49
  case hy49 => (intro w hSw; (try dsimp only at hSw); go_simp; try (with_reducible rfl))
  try simp only [Act.put, List.setIfInBounds_toArray, List.set_cons_zero, List.set_cons_succ]
  refine wpAnyH_take (i := 4) (v := ?v50) rfl (by kernel_rfl) (by kernel_rfl) (by kernel_rfl) (fun _ _ _ h => h) (Or.inl ⟨by rfl, ?hy50⟩) (by assumption) ?rest50
  case hy50 => (intro w hSw; (try dsimp only at hSw); go_simp; try (with_reducible rfl))
  try simp only [Act.put, List.setIfInBounds_toArray, List.set_cons_zero, List.set_cons_succ]
  refine wpAnyH_take (i := 5) (v := ?v51) rfl (by kernel_rfl) (by kernel_rfl) (by kernel_rfl) (fun _ _ _ h => h) (Or.inl ⟨by rfl, ?hy51⟩) (by assumption) ?rest51
  case hy51 => (intro w hSw; (try dsimp only at hSw); go_simp; try (with_reducible rfl))
  try simp only [Act.put, List.setIfInBounds_toArray, List.set_cons_zero, List.set_cons_succ]
  refine wpAnyH_take (i := 6) (v := ?v52) rfl (by kernel_rfl) (by kernel_rfl) (by kernel_rfl) (fun _ _ _ h => h) (Or.inl ⟨by rfl, ?hy52⟩) (by assumption) ?rest52
  case hy52 => (intro w hSw; (try dsimp only at hSw); go_simp; try (with_reducible rfl))
  try simp only [Act.put, List.setIfInBounds_toArray, List.set_cons_zero, List.set_cons_succ]
  refine wpAnyH_take (i := 7) (v := ?v53) rfl (by kernel_rfl) (by kernel_rfl) (by kernel_rfl) (fun _ _ _ h => h) (Or.inl ⟨by rfl, ?hy53⟩) (by assumption) ?rest53
  case hy53 => (intro w hSw; (try dsimp only at hSw); go_simp; try (with_reducible rfl))
  try simp only [Act.put, List.setIfInBounds_toArray, List.set_cons_zero, List.set_cons_succ]
  refine wpAnyH_take (i := 8) (v := ?v54) rfl (by kernel_rfl) (by kernel_rfl) (by kernel_rfl) (fun _ _ _ h => h) (Or.inl ⟨by rfl, ?hy54⟩) (by assumption) ?rest54
  case hy54 => (intro w hSw; (try dsimp only at hSw); go_simp; try (with_reducible rfl))
  try simp only [Act.put, List.setIfInBounds_toArray, List.set_cons_zero, List.set_cons_succ]
  refine wpAnyH_take (i := 9) (v := ?v55) rfl (by kernel_rfl) (by kernel_rfl) (by kernel_rfl) (fun _ _ _ h => h) (Or.inl ⟨by rfl, ?hy55⟩) (by assumption) ?rest55
  case hy55 => (intro w hSw; (try dsimp only at hSw); go_simp; try (with_reducible rfl))
  try simp only [Act.put, List.setIfInBounds_toArray, List.set_cons_zero, List.set_cons_succ]
  refine wpAnyH_take (i := 10) (v := ?v56) rfl (by kernel_rfl) (by kernel_rfl) (by kernel_rfl) (fun _ _ _ h => h) (Or.inl ⟨by rfl, ?hy56⟩) (by assumption) ?rest56
  case hy56 => (intro w hSw; (try dsimp only at hSw); go_simp; try (with_reducible rfl))
  try simp only [Act.put, List.setIfInBounds_toArray, List.set_cons_zero, List.set_cons_succ]
  refine wpAnyH_take (i := 12) (v := ?v57) rfl (by kernel_rfl) (by kernel_rfl) (by kernel_rfl) (fun _ _ _ h => h) (Or.inl ⟨by rfl, ?hy57⟩) (by assumption) ?rest57
  case hy57 => (intro w hSw; (try dsimp only at hSw); go_simp; try (with_reducible rfl))
  try simp only [Act.put, List.setIfInBounds_toArray, List.set_cons_zero, List.set_cons_succ]
  refine wpAnyH_ready (rs := [11, 13]) (by kernel_rfl) (by simp) ?_
  refine AllReadyH.cons rfl (fun K hK => ?_) (AllReadyH.cons rfl (fun K hK => ?_) AllReadyH.nil)
  · go_simp
    refine hK.out _ _ ?_ (fun hHeld => ?_)
    · exact HSC.out _ hbd
    clear hK K
    try simp only [Act.put, List.setIfInBounds_toArray, List.set_cons_zero, List.set_cons_succ]
    refine wpAnyH_ready (rs := [13]) (by kernel_rfl) (by simp) ?_
    refine AllReadyH.cons rfl (fun K hK => ?_) AllReadyH.nil
    go_simp
    refine hK.out _ _ ?_ (fun hHeld => ?_)
    · exact HSC.out _ (hbd.alloc (by simp) _)
    clear hK K
    try simp only [Act.put, List.setIfInBounds_toArray, List.set_cons_zero, List.set_cons_succ]
    refine wpAnyH_ready (rs := [14]) (by kernel_rfl) (by simp) ?_
    refine AllReadyH.cons rfl (fun K hK => ?_) AllReadyH.nil
    go_simp
    refine (show Calls Try.prog 35 _ ((w.alloc (.cells #[.int .i64 t] 3)).drew) _ from HB.out w.drew 3 hbd rfl).mono ?_
    rintro e w1 ⟨A', c', rfl, hr, hb⟩
    try go_simp
    refine hK.out _ _ ?_ (fun hHeld => ?_)
    · exact HSC.out _ hb
    clear hK K
    try simp only [Act.put, List.setIfInBounds_toArray, List.set_cons_zero, List.set_cons_succ]
    obtain ⟨z1, z2, z3⟩ := HKP.out w1 hb
    have HR := Lib.hid hr; have HBL := Lib.hid hb
    clear hr hb
    refine wpAnyH_take (i := 15) (v := ?v58) rfl (by kernel_rfl) (by kernel_rfl) (by kernel_rfl) (fun _ _ _ h => h) (Or.inl ⟨by rfl, ?hy58⟩) (by assumption) ?rest58
    case hy58 => (intro w hSw; (try dsimp only at hSw); go_simp; try (with_reducible rfl))
    try simp only [Act.put, List.setIfInBounds_toArray, List.set_cons_zero, List.set_cons_succ]
    refine wpAnyH_ready (rs := [16]) (by kernel_rfl) (by simp) ?_
    refine AllReadyH.cons rfl (fun K hK => ?_) AllReadyH.nil
    go_simp
    refine hK.out _ _ ?_ (fun hHeld => ?_)
    · exact (World.cell?_setCell_far _ _ _ _ (by show q ≠ h.g; exact hgq1)).trans (HSC.out _ HBL.out)
    clear hK K
    try simp only [Act.put, List.setIfInBounds_toArray, List.set_cons_zero, List.set_cons_succ]
    refine wpAnyH_done (by kernel_rfl) ?_ _
    refine NoPanic.normal ?_
    go_wp2_with fail
    go_ret3
    exact ⟨rfl, HW.out _ _ (HF.out _ _ _ HBL.out HR.out)⟩
  · go_simp
    refine hK.out _ _ ?_ (fun hHeld => ?_)
    · exact HSC.out _ (hbd.alloc (by simp) _)
    clear hK K
    try simp only [Act.put, List.setIfInBounds_toArray, List.set_cons_zero, List.set_cons_succ]
    obtain ⟨y1, y2, y3⟩ := HKP.out _ (hbd.alloc (by simp) (.cells #[.int .i64 t] 3))
    obtain ⟨y4, y5, y6⟩ := HKP.out _ (hbd2.alloc (by simp) (.cells #[.int .i64 t] 3))
    refine wpAnyH_ready (rs := [11]) (by kernel_rfl) (by simp) ?_
    refine AllReadyH.cons rfl (fun K hK => ?_) AllReadyH.nil
    go_simp
    refine hK.out _ _ ?_ (fun hHeld => ?_)
    · exact HSC.out _ (hbd.alloc (by simp) _)
    clear hK K
    try simp only [Act.put, List.setIfInBounds_toArray, List.set_cons_zero, List.set_cons_succ]
    refine wpAnyH_ready (rs := [14]) (by kernel_rfl) (by simp) ?_
    refine AllReadyH.cons rfl (fun K hK => ?_) AllReadyH.nil
    go_simp
    refine (show Calls Try.prog 35 _ ((w.alloc (.cells #[.int .i64 t] 3)).drew) _ from HB.out w.drew 3 hbd rfl).mono ?_
    rintro e w1 ⟨A', c', rfl, hr, hb⟩
    try go_simp
    refine hK.out _ _ ?_ (fun hHeld => ?_)
    · exact HSC.out _ hb
    clear hK K
    try simp only [Act.put, List.setIfInBounds_toArray, List.set_cons_zero, List.set_cons_succ]
    obtain ⟨z1, z2, z3⟩ := HKP.out w1 hb
    have HR := Lib.hid hr; have HBL := Lib.hid hb
    clear hr hb
    refine wpAnyH_take (i := 15) (v := ?v59) rfl (by kernel_rfl) (by kernel_rfl) (by kernel_rfl) (fun _ _ _ h => h) (Or.inl ⟨by rfl, ?hy59⟩) (by assumption) ?rest59
    case hy59 => (intro w hSw; (try dsimp only at hSw); go_simp; try (with_reducible rfl))
    try simp only [Act.put, List.setIfInBounds_toArray, List.set_cons_zero, List.set_cons_succ]
    refine wpAnyH_ready (rs := [16]) (by kernel_rfl) (by simp) ?_
    refine AllReadyH.cons rfl (fun K hK => ?_) AllReadyH.nil
    go_simp
    refine hK.out _ _ ?_ (fun hHeld => ?_)
    · exact (World.cell?_setCell_far _ _ _ _ (by show q ≠ h.g; exact hgq1)).trans (HSC.out _ HBL.out)
    clear hK K
    try simp only [Act.put, List.setIfInBounds_toArray, List.set_cons_zero, List.set_cons_succ]
    refine wpAnyH_done (by kernel_rfl) ?_ _
    refine NoPanic.normal ?_
    go_wp2_with fail
    go_ret3
    exact ⟨rfl, HW.out _ _ (HF.out _ _ _ HBL.out HR.out)⟩
set_option maxRecDepth 100000 in
set_option maxHeartbeats 4000000 in
/-- Where something lies behind admit: the first number is taken. -/
theorem recv_take {w00 : World} {s00 : Ck} (H00 : ChM w00 B h s00) (O00 : CkOk K n s00) (hK : K ≤ 100000) (hN : n ≤ 1000000) (m : Nat) (hm : m < n) (t : Int) (ht : 0 ≤ t) (v : Int) (r : List Int) (hq : gl (admitV s00 m).1.bf m = v :: r) :
    Calls Try.prog 21 #[.pointer (some ⟨h.g, 0, none⟩), .int .i64 (m : Int), .int .i64 t] w00 fun e w' => e = .returned (.tuple #[.int .i64 v, .int .i64 (admitV s00 m).2, .bool true]) ∧ ChT w00 w' B h { (admitV s00 m).1 with bf := (admitV s00 m).1.bf.set m r } := by
  have hh := has_yes H00 O00 m hm hN
  have had := fun j => admit_any (H00.drewN j) O00 hK hN m hm
  have hfr : ∀ j w' s', ChT (w00.drewN j) w' B h s' → ChT w00 w' B h s' := fun j w' s' hT => ⟨hT.1, ((Fr.refl h.W w00).drewN j).trans hT.2 (fun _ _ h => h)⟩
  have O := O00.admit hm
  generalize (admitV s00 m).1 = s at *
  generalize (admitV s00 m).2 = kk at *
  have HH := Lib.hid hh; have HAD := Lib.hid had; have HFR := Lib.hid hfr; have HO := Lib.hid O
  clear hh had hfr H00 O00 O
  have h0 : (m : Int) < (n : Int) := by omega
  have h1 : (0 : Int) ≤ (m : Int) := by omega
  have h2 : decide (t < 0) = false := by simp; omega
  go_enter Try.func21, Try.ntmps21
  go_wp2_with fail
  refine HH.out.mono ?_
  rintro e w1 ⟨rfl, j, rfl⟩
  go_wp2_with fail
  refine (HAD.out j).mono ?_
  rintro e w ⟨rfl, hT⟩
  have hW := fun w' s' (hT2 : ChT w w' B h s') => (HFR.out j w s hT).trans hT2
  have H := hT.1
  have O := HO.out
  have HW := Lib.hid hW
  clear hT hW HFR HAD HH HO
  obtain ⟨b0, b1, b2⟩ := H.cells
  obtain ⟨p, pcap, Ap, cp, g1, g2, g3, g4, g5, g6, g7⟩ := H.bf.at_ (i := m) (by rw [O.l1]; exact hm)
  rw [g1, O.l1] at b0
  obtain ⟨ad, hA, hD, hbl, hc0⟩ := g7.at_ (i := 0) (by rw [hq]; simp)
  subst hA
  have hx0 : gn (gl s.bf m) 0 = v := by rw [hq]; rfl
  rw [hx0] at hc0
  have hlen : 1 ≤ (gl s.bf m).length := by rw [hq]; simp
  have hdrop : (gl s.bf m).drop 1 = r := by rw [hq]; rfl
  have hsp := World.cell?_spot hc0
  obtain ⟨bk, off, sp⟩ := ad
  simp [Addr.add] at hsp hc0 hD hbl
  subst hsp
  obtain ⟨A3, hA3⟩ : ∃ A3, A3 = (if cp = 1 then some (⟨bk, off, none⟩ : Addr) else some ⟨bk, off + 1, none⟩) := ⟨_, rfl⟩
  have hcut := g7.cut 1 hlen (by omega)
  rw [hdrop, ← hA3] at hcut
  have hrl : r.length = (gl s.bf m).length - 1 := by rw [hq]; simp
  have hcapp := g7.1
  have hrow := O.row m
  have hgp := (H.wlt (.inl g4)).2.2
  have hmp : m < s.bf.length := by rw [O.l1]; exact hm
  have hgl := H.box.lt
  have hf2 : ∀ W, Below w.heap.size w W → ChT w (W.setCell ⟨p, m, none⟩ (.slice A3 ((gl s.bf m).length - 1) (cp - 1))) B h { s with bf := s.bf.set m r } := by
    intro W hb
    have hM2 := (H.below hb (Nat.le_refl _)).setB g1 (i := m) hmp (hcut.below hb (Nat.le_refl _))
    rw [hrl] at hM2
    exact ⟨hM2, ((Fr.refl h.W w).trans (Fr.of_below hb) (fun i hi e => by omega)).setCell (p := ⟨p, m, none⟩) (.inl (.inl g4)) _⟩
  have hsc : ∀ W, Below w.heap.size w W → W.cell? ⟨h.g, 4, none⟩ = some (.slice (some ⟨p, 0, none⟩) n pcap) := fun W hb => (hb.cell (p := ⟨h.g, 4, none⟩) hgl).trans b0
  have HF2 := Lib.hid hf2; have HSC := Lib.hid hsc; have HA3 := Lib.hid hA3
  have hA4 := hA3.symm
  clear H O hf2 hsc hA3 g1 g2 g4 g7 hrow hq hcut hdrop hrl hD hmp hx0 b1 b2
  generalize (gl s.bf m).length = k at *
  have h3 : ((k : Int) == 0) = false := by rw [beq_eq_false_iff_ne]; omega
  have h5 : (0 : Int) < (k : Int) := by omega
  have h6 : (1 : Int) ≤ (k : Int) := by omega
  have h7 : (k : Int) ≤ (cp : Int) := by omega
  have h8 : (1 : Int) ≤ (cp : Int) := by omega
  have g60 := g6 m
  have hgp1 : ¬ p = h.g := hgp
  have hgp2 : ¬ h.g = p := fun e => hgp e.symm
  go_wp2_with fail
  have hbd : Below w.heap.size w w.drew := (Below.refl _ _).drew
  refine wp_region_noPanic ?_
  refine wp_region_held_drew (S := fun w' => w'.cell? ⟨h.g, 4, none⟩ = some (.slice (some ⟨p, 0, none⟩) n pcap)) (by kernel_rfl) (HSC.out _ hbd) (fun hHeld => ?_)
  refine wpAnyH_take (i := 0) (v := ?v60) rfl (by kernel_rfl) (by kernel_rfl) (by kernel_rfl) (fun _ _ _ h => h) (Or.inl ⟨by rfl, ?hy60⟩) (by assumption) ?rest60
  case hy60 => (intro w hSw; (try dsimp only at hSw); go_simp; try (with_reducible rfl))
  try simp only [Act.put, List.setIfInBounds_toArray, List.set_cons_zero, List.set_cons_succ]
  refine wpAnyH_take (i := 1) (v := ?v61) rfl (by kernel_rfl) (by kernel_rfl) (by kernel_rfl) (fun _ _ _ h => h) (Or.inl ⟨by rfl, ?hy61⟩) (by assumption) ?rest61
  case hy61 => (intro w hSw; (try dsimp only at hSw); go_simp; try (with_reducible rfl))
  try simp only [Act.put, List.setIfInBounds_toArray, List.set_cons_zero, List.set_cons_succ]
  refine wpAnyH_take (i := 2) (v := ?v62) rfl (by kernel_rfl) (by kernel_rfl) (by kernel_rfl) (fun _ _ _ h => h) (Or.inl ⟨by rfl, ?hy62⟩) (by assumption) ?rest62
  case hy62 => (intro w hSw; (try dsimp only at hSw); go_simp; try (with_reducible rfl))
  try simp only [Act.put, List.setIfInBounds_toArray, List.set_cons_zero, List.set_cons_succ]
  refine wpAnyH_take (i := 3) (v := ?v63) rfl (by kernel_rfl) (by kernel_rfl) (by kernel_rfl) (fun _ _ _ h => h) (Or.inl ⟨by rfl, ?hy63⟩) (by assumption) ?rest63
  case hy63 => (intro w hSw; (try dsimp only at hSw); go_simp; try (with_reducible rfl))
  try simp only [Act.put, List.setIfInBounds_toArray, List.set_cons_zero, List.set_cons_succ]
  refine wpAnyH_take (i := 4) (v := ?v64) rfl (by kernel_rfl) (by kernel_rfl) (by kernel_rfl) (fun _ _ _ h => h) (Or.inl ⟨by rfl, ?hy64⟩) (by assumption) ?rest64
  case hy64 => (intro w hSw; (try dsimp only at hSw); go_simp; try (with_reducible rfl))
  try simp only [Act.put, List.setIfInBounds_toArray, List.set_cons_zero, List.set_cons_succ]
  refine wpAnyH_take (i := 5) (v := ?v65) rfl (by kernel_rfl) (by kernel_rfl) (by kernel_rfl) (fun _ _ _ h => h) (Or.inl ⟨by rfl, ?hy65⟩) (by assumption) ?rest65
  case hy65 => (intro w hSw; (try dsimp only at hSw); go_simp; try (with_reducible rfl))
  try simp only [Act.put, List.setIfInBounds_toArray, List.set_cons_zero, List.set_cons_succ]
  refine wpAnyH_take (i := 6) (v := ?v66) rfl (by kernel_rfl) (by kernel_rfl) (by kernel_rfl) (fun _ _ _ h => h) (Or.inl ⟨by rfl, ?hy66⟩) (by assumption) ?rest66
  case hy66 => (intro w hSw; (try dsimp only at hSw); go_simp; try (with_reducible rfl))
  try simp only [Act.put, List.setIfInBounds_toArray, List.set_cons_zero, List.set_cons_succ]
  refine wpAnyH_take (i := 7) (v := ?v67) rfl (by kernel_rfl) (by kernel_rfl) (by kernel_rfl) (fun _ _ _ h => h) (Or.inl ⟨by rfl, ?hy67⟩) (by assumption) ?rest67
  case hy67 => (intro w hSw; (try dsimp only at hSw); go_simp; try (with_reducible rfl))
  try simp only [Act.put, List.setIfInBounds_toArray, List.set_cons_zero, List.set_cons_succ]
  refine wpAnyH_take (i := 8) (v := ?v68) rfl (by kernel_rfl) (by kernel_rfl) (by kernel_rfl) (fun _ _ _ h => h) (Or.inl ⟨by rfl, ?hy68⟩) (by assumption) ?rest68
  case hy68 => (intro w hSw; (try dsimp only at hSw); go_simp; try (with_reducible rfl))
  try simp only [Act.put, List.setIfInBounds_toArray, List.set_cons_zero, List.set_cons_succ]
  refine wpAnyH_take (i := 9) (v := ?v69) rfl (by kernel_rfl) (by kernel_rfl) (by kernel_rfl) (fun _ _ _ h => h) (Or.inl ⟨by rfl, ?hy69⟩) (by assumption) ?rest69
  case hy69 => (intro w hSw; (try dsimp only at hSw); go_simp; try (with_reducible rfl))
  try simp only [Act.put, List.setIfInBounds_toArray, List.set_cons_zero, List.set_cons_succ]
  refine wpAnyH_take (i := 10) (v := ?v70) rfl (by kernel_rfl) (by kernel_rfl) (by kernel_rfl) (fun _ _ _ h => h) (Or.inl ⟨by rfl, ?hy70⟩) (by assumption) ?rest70
  case hy70 => (intro w hSw; (try dsimp only at hSw); go_simp; try (with_reducible rfl))
  try simp only [Act.put, List.setIfInBounds_toArray, List.set_cons_zero, List.set_cons_succ]
  refine wpAnyH_ready (rs := [11]) (by kernel_rfl) (by simp) ?_
  refine AllReadyH.cons rfl (fun K hK => ?_) AllReadyH.nil
  go_simp
  refine hK.out _ _ ?_ (fun hHeld => ?_)
  · exact HSC.out _ hbd
  clear hK K
  try simp only [Act.put, List.setIfInBounds_toArray, List.set_cons_zero, List.set_cons_succ]
  refine wpAnyH_take (i := 12) (v := ?v71) rfl (by kernel_rfl) (by kernel_rfl) (by kernel_rfl) (fun _ _ _ h => h) (Or.inl ⟨by rfl, ?hy71⟩) (by assumption) ?rest71
  case hy71 => (intro w hSw; (try dsimp only at hSw); go_simp; try (with_reducible rfl))
  try simp only [Act.put, List.setIfInBounds_toArray, List.set_cons_zero, List.set_cons_succ]
  refine wpAnyH_take (i := 13) (v := ?v72) rfl (by kernel_rfl) (by kernel_rfl) (by kernel_rfl) (fun _ _ _ h => h) (Or.inl ⟨by rfl, ?hy72⟩) (by assumption) ?rest72
  case hy72 => (intro w hSw; (try dsimp only at hSw); go_simp; try (with_reducible rfl))
  try simp only [Act.put, List.setIfInBounds_toArray, List.set_cons_zero, List.set_cons_succ]
  refine wpAnyH_ready (rs := [14]) (by kernel_rfl) (by simp) ?_
  refine AllReadyH.cons rfl (fun K hK => ?_) AllReadyH.nil
  go_simp
  refine hK.out _ _ ?_ (fun hHeld => ?_)
  · exact (World.cell?_setCell_far _ _ _ _ (by show p ≠ h.g; exact hgp1)).trans (HSC.out _ (Below.refl _ _))
  clear hK K
  try simp only [Act.put, List.setIfInBounds_toArray, List.set_cons_zero, List.set_cons_succ]
  refine wpAnyH_done (by kernel_rfl) ?_ _
  refine NoPanic.normal ?_
  have HE := Lib.hid (HF2.out _ hbd)
  go_wp2_with fail
  go_ret3
  exact ⟨rfl, HW.out _ _ HE.out⟩
theorem recv_any (H : ChM w B h s) (O : CkOk K n s) (hK : K ≤ 100000) (hN : n ≤ 1000000) (m : Nat) (hm : m < n) (t : Int) (ht : 0 ≤ t) :
    Calls Try.prog 21 #[.pointer (some ⟨h.g, 0, none⟩), .int .i64 (m : Int), .int .i64 t] w fun e w' => e = .returned (.tuple #[.int .i64 (recvV s m t).2.1, .int .i64 (recvV s m t).2.2.1, .bool (recvV s m t).2.2.2]) ∧ ChT w w' B h (recvV s m t).1 := by
  unfold recvV takeV
  split
  · rename_i v r hq
    exact recv_take H O hK hN m hm t ht v r hq
  · rename_i hq
    exact recv_wait H O hK hN m hm t ht hq
end
end Go.Proofs.Ytbgigkamlnchcaa
