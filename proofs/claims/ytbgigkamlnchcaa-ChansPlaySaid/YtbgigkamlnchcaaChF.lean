
/-
  Send, where one waits to receive; the first one that waits to send is let in.
-/
import Derived.Test.YtbgigkamlnchcaaChE
import Derived.Deep.RegionLawGrows
set_option linter.unusedVariables false
set_option linter.unusedSimpArgs false
namespace Go.Proofs.Ytbgigkamlnchcaa
open Go.RowKit Go.Shelf Plain

section
variable {w : World} {B : Nat} {h : ChH} {s : Ck} {K n : Nat}
set_option maxHeartbeats 2000000 in
theorem send_meet (H : ChM w B h s) (O : CkOk K n s) (hK : K ≤ 100000) (hN : n ≤ 1000000) (m : Nat) (hm : m < n) (room t v : Int) (ht : 0 ≤ t) (x : Int) (r : List Int) (hq : gl s.rq m = x :: r) :
    Calls Try.prog 20 #[.pointer (some ⟨h.g, 0, none⟩), .int .i64 (m : Int), .int .i64 room, .int .i64 t, .int .i64 v] w fun e w' => e = .returned (.tuple #[.int .i64 x, .bool true]) ∧ ChT w w' B h (cancelV s x) := by
  have hh := has_yes H O m hm hN
  obtain ⟨b0, b1, b2⟩ := H.cells
  obtain ⟨q, qcap, A, c, f1, f2, f3, f4, f5, f6, f7⟩ := H.rq.at_ (i := m) (by rw [O.l3]; exact hm)
  rw [f1, O.l3] at b2
  have hca := fun j => cancel_any (w.drewN j) B h s (H.drewN j) K n O (by omega) (by omega) hN x
  have hfr : ∀ j w' s', ChT (w.drewN j) w' B h s' → ChT w w' B h s' := fun j w' s' hT => ⟨hT.1, ((Fr.refl h.W w).drewN j).trans hT.2 (fun _ _ h => h)⟩
  obtain ⟨ad, hA, _, _, hc0⟩ := f7.at_ (i := 0) (by rw [hq]; simp)
  subst hA
  have hx : gn (gl s.rq m) 0 = x := by rw [hq]; rfl
  rw [hx] at hc0
  have hlen : 0 < (gl s.rq m).length := by rw [hq]; simp
  have hrow := O.row m
  have hsp := World.cell?_spot hc0
  obtain ⟨bk, off, sp⟩ := ad
  simp [Addr.add] at hsp hc0
  subst hsp
  have HH := Lib.hid hh; have HC := Lib.hid hca; have HF := Lib.hid hfr
  clear H O hh hca hfr f1 f2 f4 f7 f6 b0 b1 hx hq
  generalize h.g = g at *
  generalize (gl s.rq m).length = k at *
  generalize didV s x = dd at *
  have h0 : (m : Int) < (n : Int) := by omega
  have h1 : (0 : Int) ≤ (m : Int) := by omega
  have h2 : decide (t < 0) = false := by simp; omega
  have h3 : decide ((k : Int) > 0) = true := by simp; omega
  have h4 : (0 : Int) < (k : Int) := by omega
  go_enter Try.func20, Try.ntmps20
  go_wp2_with fail
  refine HH.out.mono ?_
  rintro e w1 ⟨rfl, j, rfl⟩
  go_wp2_with fail
  refine (HC.out j).mono ?_
  rintro e w2 ⟨rfl, hT⟩
  have HT := Lib.hid (HF.out _ _ _ hT)
  clear hT
  go_wp2_with fail
  go_ret2
  exact ⟨rfl, HT.out⟩
theorem send_any (H : ChM w B h s) (O : CkOk K n s) (hK : K ≤ 100000) (hN : n ≤ 1000000) (m : Nat) (hm : m < n) (room t v : Int) (ht : 0 ≤ t) :
    Calls Try.prog 20 #[.pointer (some ⟨h.g, 0, none⟩), .int .i64 (m : Int), .int .i64 room, .int .i64 t, .int .i64 v] w fun e w' => e = .returned (.tuple #[.int .i64 (sendV s m room t v).2.1, .bool (sendV s m room t v).2.2]) ∧ ChT w w' B h (sendV s m room t v).1 := by
  unfold sendV
  split
  · rename_i x r hq
    exact send_meet H O hK hN m hm room t v ht x r hq
  · rename_i hq
    split
    · rename_i hr
      exact send_room H O hK hN m hm room t v ht hq hr
    · rename_i hr
      exact send_wait H O hK hN m hm room t v ht hq hr
set_option maxHeartbeats 1000000 in
theorem admit_nil (H : ChM w B h s) (O : CkOk K n s) (hN : n ≤ 1000000) (m : Nat) (hm : m < n) (hq : gl s.sq m = []) :
    Calls Try.prog 36 #[.pointer (some ⟨h.g, 0, none⟩), .int .i64 (m : Int)] w fun e w' => e = .returned (.int .i64 (-1)) ∧ ChT w w' B h s := by
  obtain ⟨b0, b1, b2⟩ := H.cells
  obtain ⟨q, qcap, A, c, f1, f2, f3, f4, f5, f6, f7⟩ := H.sq.at_ (i := m) (by rw [O.l2]; exact hm)
  rw [f1, O.l2] at b1
  rw [hq, List.length_nil] at f5
  have hT := ChT.refl H
  have HT := Lib.hid hT
  clear H O f1 f2 f4 f6 f7 b0 b2 hT hq
  generalize h.g = g at *
  have h0 : (m : Int) < (n : Int) := by omega
  have h1 : (0 : Int) ≤ (m : Int) := by omega
  go_enter Try.func36, Try.ntmps36
  go_wp2_with fail
  go_ret
  exact ⟨rfl, HT.out⟩
/-- A row without its first two, with what room is behind it. -/
theorem RN.cut {w : World} {D : Nat → Prop} {bk off c : Nat} {l : List Int} (k : Nat) (hk : k ≤ l.length) (hk0 : 0 < k) (h : RN w D (some ⟨bk, off, none⟩) c l) : RN w D (if c = k then some ⟨bk, off, none⟩ else some ⟨bk, off + k, none⟩) (c - k) (l.drop k) := by
  have hc := h.1
  split
  · exact RN.empty _ _ _ _ (by simp; omega)
  · rcases Nat.lt_or_ge k l.length with hl | hl
    · have := h.drop k hl (c - k) (by omega)
      simpa [Addr.add, Nat.ne_of_gt hk0] using this
    · exact RN.empty _ _ _ _ (by simp; omega)
set_option maxRecDepth 100000 in
set_option maxHeartbeats 4000000 in
theorem admit_some (H : ChM w B h s) (O : CkOk K n s) (hK : K ≤ 100000) (hN : n ≤ 1000000) (m : Nat) (hm : m < n) (x y : Int) (r : List Int) (hq : gl s.sq m = x :: y :: r) :
    Calls Try.prog 36 #[.pointer (some ⟨h.g, 0, none⟩), .int .i64 (m : Int)] w fun e w' => e = .returned (.int .i64 x) ∧ ChT w w' B h { s with bf := s.bf.set m (gl s.bf m ++ [y]), sq := s.sq.set m r } := by
  obtain ⟨b0, b1, b2⟩ := H.cells
  obtain ⟨q, qcap, A, c, f1, f2, f3, f4, f5, f6, f7⟩ := H.bf.at_ (i := m) (by rw [O.l1]; exact hm)
  rw [f1, O.l1] at b0
  have hrow := O.row m
  have hbh := fun W0 T hb hz => behind_one w _ A c _ f7 (by omega) y W0 T hb hz
  have hml : m < s.bf.length := by rw [O.l1]; exact hm
  have hfin : ∀ W A' c', Below w.heap.size w W → RN W (fun k => w.heap.size ≤ k) A' c' (gl s.bf m ++ [y]) → ChT w (W.setCell ⟨q, m, none⟩ (.slice A' ((gl s.bf m).length + 1) c')) B h { s with bf := s.bf.set m (gl s.bf m ++ [y]) } := by
    intro W A' c' hb hr
    have hM := H.below hb (Nat.le_refl _)
    have := hM.setB f1 hml (hr.mono (fun i hi _ => H.fresh hi))
    rw [show (gl s.bf m ++ [y]).length = (gl s.bf m).length + 1 by simp] at this
    exact ⟨this, (((Fr.refl h.W w).trans (Fr.of_below hb) (fun i hi e => by omega))).setCell (p := ⟨q, m, none⟩) (.inl (.inl f4)) _⟩
  have hgq := (H.wlt (.inl f4)).2.2
  have hgl := H.box.lt
  have hkeep : ∀ W, Below w.heap.size w W → W.cell? ⟨h.g, 4, none⟩ = some (.slice (some ⟨q, 0, none⟩) n qcap) ∧ W.cell? ⟨q, m, none⟩ = some (.slice A (gl s.bf m).length c) ∧ W.frozen? ⟨q, m, none⟩ = false := fun W hb =>
    ⟨(hb.cell (p := ⟨h.g, 4, none⟩) hgl).trans b0, (hb.cell (p := ⟨q, m, none⟩) f3).trans f5, (hb.frozen (p := ⟨q, m, none⟩) f3).trans (f6 m)⟩
  obtain ⟨p, pcap, Ap, cp, g1, g2, g3, g4, g5, g6, g7⟩ := H.sq.at_ (i := m) (by rw [O.l2]; exact hm)
  rw [g1, O.l2] at b1
  obtain ⟨ad, hA, hD, hbl, hc0⟩ := g7.at_ (i := 0) (by rw [hq]; simp)
  obtain ⟨ad2, hA2, _, _, hc1⟩ := g7.at_ (i := 1) (by rw [hq]; simp)
  subst hA
  obtain rfl := Option.some.inj hA2
  have hx0 : gn (gl s.sq m) 0 = x := by rw [hq]; rfl
  have hx1 : gn (gl s.sq m) 1 = y := by rw [hq]; rfl
  rw [hx0] at hc0
  rw [hx1] at hc1
  have hlen : 2 ≤ (gl s.sq m).length := by rw [hq]; simp
  have hdrop : (gl s.sq m).drop 2 = r := by rw [hq]; rfl
  have hsp := World.cell?_spot hc0
  obtain ⟨bk, off, sp⟩ := ad
  simp [Addr.add] at hsp hc0 hc1 hD hbl
  subst hsp
  obtain ⟨A3, hA3⟩ : ∃ A3, A3 = (if cp = 2 then some (⟨bk, off, none⟩ : Addr) else some ⟨bk, off + 2, none⟩) := ⟨_, rfl⟩
  have hcut := g7.cut 2 hlen (by omega)
  rw [hdrop, ← hA3] at hcut
  have hrl : r.length = (gl s.sq m).length - 2 := by rw [hq]; simp
  have hcapp := g7.1
  have hqk : ¬ q = bk := fun e => hD.1 (e ▸ .inl f4)
  have hpk : ¬ p = bk := fun e => hD.1 (e ▸ .inr (.inl g4))
  have hqp : ¬ q = p := fun e => H.n1 q f4 (e ▸ g4)
  have hgp := (H.wlt (.inr (.inl g4))).2.2
  have hmp : m < s.sq.length := by rw [O.l2]; exact hm
  have hf2 : ∀ W A' c', Below w.heap.size w W → RN W (fun k => w.heap.size ≤ k) A' c' (gl s.bf m ++ [y]) → ChT w ((W.setCell ⟨q, m, none⟩ (.slice A' ((gl s.bf m).length + 1) c')).setCell ⟨p, m, none⟩ (.slice A3 ((gl s.sq m).length - 2) (cp - 2))) B h { s with bf := s.bf.set m (gl s.bf m ++ [y]), sq := s.sq.set m r } := by
    intro W A' c' hb hr
    have hT := hfin W A' c' hb hr
    have hr2 := (hcut.below hb (Nat.le_refl _)).fr (fr_set W q m (.slice A' ((gl s.bf m).length + 1) c')) (fun i hi _ e => hi.1 (e ▸ .inl f4))
    have hM2 := hT.1.setS g1 (i := m) hmp hr2
    rw [hrl] at hM2
    exact ⟨hM2, hT.2.setCell (p := ⟨p, m, none⟩) (.inl (.inr (.inl g4))) _⟩
  have hsq : ∀ W, Below w.heap.size w W → ∀ v, (W.setCell ⟨q, m, none⟩ v).cell? ⟨h.g, 8, none⟩ = some (.slice (some ⟨p, 0, none⟩) n pcap) ∧ (W.setCell ⟨q, m, none⟩ v).cell? ⟨p, m, none⟩ = some (.slice (some ⟨bk, off, none⟩) (gl s.sq m).length cp) ∧ (W.setCell ⟨q, m, none⟩ v).frozen? ⟨p, m, none⟩ = false ∧ (W.setCell ⟨q, m, none⟩ v).cell? ⟨bk, off, none⟩ = some (.int .i64 x) ∧ True := fun W hb v =>
    ⟨(World.cell?_setCell_far _ _ _ _ hgq).trans ((hb.cell (p := ⟨h.g, 8, none⟩) hgl).trans b1), (World.cell?_setCell_far _ _ _ _ hqp).trans ((hb.cell (p := ⟨p, m, none⟩) g3).trans g5), by rw [World.frozen?_setCell]; exact (hb.frozen (p := ⟨p, m, none⟩) g3).trans (g6 m), (World.cell?_setCell_far _ _ _ _ hqk).trans ((hb.cell (p := ⟨bk, off, none⟩) hbl).trans hc0), trivial⟩
  have hxf : ∀ W, Below w.heap.size w W → ∀ v v', ((W.setCell ⟨q, m, none⟩ v).setCell ⟨p, m, none⟩ v').cell? ⟨bk, off, none⟩ = some (.int .i64 x) := fun W hb v v' =>
    (World.cell?_setCell_far _ _ _ _ hpk).trans (hsq W hb v).2.2.2.1
  have hsc : ∀ W, Below w.heap.size w W → W.cell? ⟨h.g, 4, none⟩ = some (.slice (some ⟨q, 0, none⟩) n qcap) ∧ W.cell? ⟨bk, off + 1, none⟩ = some (.int .i64 y) := fun W hb => ⟨(hkeep W hb).1, (hb.cell (p := ⟨bk, off + 1, none⟩) hbl).trans hc1⟩
  have HF := Lib.hid hfin; have HB := Lib.hid hbh; have HKP := Lib.hid hkeep; have HSC := Lib.hid hsc; have HF2 := Lib.hid hf2; have HSQ := Lib.hid hsq; have HXF := Lib.hid hxf; have HA3 := Lib.hid hA3
  have hA4 := hA3.symm
  clear H O hfin hbh hkeep hsc hf2 hsq hxf hA3 f1 f2 f4 f7 g1 g2 g4 g7 hml hrow hq hcut hdrop hrl hD hmp hx0 hx1 hA2 b2
  generalize h.g = g at *
  generalize (gl s.bf m).length = k at *
  generalize (gl s.sq m).length = k2 at *
  have h0 : (m : Int) < (n : Int) := by omega
  have h1 : (0 : Int) ≤ (m : Int) := by omega
  have h3 : decide ((k2 : Int) < 2) = false := by simp; omega
  have h4 : (1 : Int) < (k2 : Int) := by omega
  have h5 : (0 : Int) < (k2 : Int) := by omega
  have h6 : (2 : Int) ≤ (k2 : Int) := by omega
  have h7 : (k2 : Int) ≤ (cp : Int) := by omega
  have h8 : (2 : Int) ≤ (cp : Int) := by omega
  have f60 := f6 m
  have hgq1 : ¬ q = g := hgq
  have hgq2 : ¬ g = q := fun e => hgq e.symm
  have hgp1 : ¬ p = g := hgp
  have hgp2 : ¬ g = p := fun e => hgp e.symm
  go_enter Try.func36, Try.ntmps36
  go_wp2_with fail
  have hbd : Below w.heap.size w w.drew := (Below.refl _ _).drew
  have hbd2 : Below w.heap.size w w.drew := (Below.refl _ _).drew
  refine wp_region_noPanic ?_
  refine wp_region_held_drew (S := fun w' => (w'.cell? ⟨g, 4, none⟩ = some (.slice (some ⟨q, 0, none⟩) n qcap) ∧ w'.cell? ⟨bk, off + 1, none⟩ = some (.int .i64 y))) (by kernel_rfl) (HSC.out _ hbd) (fun hHeld => ?_)
  refine wpAnyH_take (i := 0) (v := ?v30) rfl (by kernel_rfl) (by kernel_rfl) (by kernel_rfl) (fun _ _ _ h => h) (Or.inl ⟨by rfl, ?hy30⟩) (by assumption) ?rest30
  case hy30 => (intro w hSw; (try dsimp only at hSw); go_simp; try (with_reducible rfl))
  try simp only [Act.put, List.setIfInBounds_toArray, List.set_cons_zero, List.set_cons_succ]
  refine wpAnyH_take (i := 1) (v := ?v31) rfl (by kernel_rfl) (by kernel_rfl) (by kernel_rfl) (fun _ _ _ h => h) (Or.inl ⟨by rfl, ?hy31⟩) (by assumption) ?rest31
  case hy31 => (intro w hSw; (try dsimp only at hSw); go_simp; try (with_reducible rfl))
  try simp only [Act.put, List.setIfInBounds_toArray, List.set_cons_zero, List.set_cons_succ]
  refine wpAnyH_take (i := 2) (v := ?v32) rfl (by kernel_rfl) (by kernel_rfl) (by kernel_rfl) (fun _ _ _ h => h) (Or.inl ⟨by rfl, ?hy32⟩) (by assumption) ?rest32
  case hy32 => (intro w hSw; (try dsimp only at hSw); go_simp; try (with_reducible rfl))
  try simp only [Act.put, List.setIfInBounds_toArray, List.set_cons_zero, List.set_cons_succ]
  refine wpAnyH_take (i := 3) (v := ?v33) rfl (by kernel_rfl) (by kernel_rfl) (by kernel_rfl) (fun _ _ _ h => h) (Or.inl ⟨by rfl, ?hy33⟩) (by assumption) ?rest33
  case hy33 => (intro w hSw; (try dsimp only at hSw); go_simp; try (with_reducible rfl))
  try simp only [Act.put, List.setIfInBounds_toArray, List.set_cons_zero, List.set_cons_succ]
  refine wpAnyH_take (i := 4) (v := ?v34) rfl (by kernel_rfl) (by kernel_rfl) (by kernel_rfl) (fun _ _ _ h => h) (Or.inl ⟨by rfl, ?hy34⟩) (by assumption) ?rest34
  case hy34 => (intro w hSw; (try dsimp only at hSw); go_simp; try (with_reducible rfl))
  try simp only [Act.put, List.setIfInBounds_toArray, List.set_cons_zero, List.set_cons_succ]
  refine wpAnyH_take (i := 5) (v := ?v35) rfl (by kernel_rfl) (by kernel_rfl) (by kernel_rfl) (fun _ _ _ h => h) (Or.inl ⟨by rfl, ?hy35⟩) (by assumption) ?rest35
  case hy35 => (intro w hSw; (try dsimp only at hSw); go_simp; try (with_reducible rfl))
  try simp only [Act.put, List.setIfInBounds_toArray, List.set_cons_zero, List.set_cons_succ]
  refine wpAnyH_take (i := 6) (v := ?v36) rfl (by kernel_rfl) (by kernel_rfl) (by kernel_rfl) (fun _ _ _ h => h) (Or.inl ⟨by rfl, ?hy36⟩) (by assumption) ?rest36
  case hy36 => (intro w hSw; (try dsimp only at hSw); go_simp; try (with_reducible rfl))
  try simp only [Act.put, List.setIfInBounds_toArray, List.set_cons_zero, List.set_cons_succ]
  refine wpAnyH_take (i := 7) (v := ?v37) rfl (by kernel_rfl) (by kernel_rfl) (by kernel_rfl) (fun _ _ _ h => h) (Or.inl ⟨by rfl, ?hy37⟩) (by assumption) ?rest37
  case hy37 => (intro w hSw; (try dsimp only at hSw); go_simp; try (with_reducible rfl))
  try simp only [Act.put, List.setIfInBounds_toArray, List.set_cons_zero, List.set_cons_succ]
  refine wpAnyH_take (i := 8) (v := ?v38) rfl (by kernel_rfl) (by kernel_rfl) (by kernel_rfl) (fun _ _ _ h => h) (Or.inl ⟨by rfl, ?hy38⟩) (by assumption) ?rest38
  case hy38 => (intro w hSw; (try dsimp only at hSw); go_simp; try (with_reducible rfl))
  try simp only [Act.put, List.setIfInBounds_toArray, List.set_cons_zero, List.set_cons_succ]
  refine wpAnyH_take (i := 9) (v := ?v39) rfl (by kernel_rfl) (by kernel_rfl) (by kernel_rfl) (fun _ _ _ h => h) (Or.inl ⟨by rfl, ?hy39⟩) (by assumption) ?rest39
  case hy39 => (intro w hSw; (try dsimp only at hSw); go_simp; try (with_reducible rfl))
  try simp only [Act.put, List.setIfInBounds_toArray, List.set_cons_zero, List.set_cons_succ]
  refine wpAnyH_take (i := 10) (v := ?v40) rfl (by kernel_rfl) (by kernel_rfl) (by kernel_rfl) (fun _ _ _ h => h) (Or.inl ⟨by rfl, ?hy40⟩) (by assumption) ?rest40
  case hy40 => (intro w hSw; (try dsimp only at hSw); go_simp; try (with_reducible rfl))
  try simp only [Act.put, List.setIfInBounds_toArray, List.set_cons_zero, List.set_cons_succ]
  refine wpAnyH_take (i := 12) (v := ?v41) rfl (by kernel_rfl) (by kernel_rfl) (by kernel_rfl) (fun _ _ _ h => h) (Or.inl ⟨by rfl, ?hy41⟩) (by assumption) ?rest41
  case hy41 => (intro w hSw; (try dsimp only at hSw); go_simp; try (with_reducible rfl))
  try simp only [Act.put, List.setIfInBounds_toArray, List.set_cons_zero, List.set_cons_succ]
  refine wpAnyH_take (i := 13) (v := ?v42) rfl (by kernel_rfl) (by kernel_rfl) (by kernel_rfl) (fun _ _ _ h => h) (Or.inl ⟨by rfl, ?hy42⟩) (by assumption) ?rest42
  case hy42 => (intro w hSw; (try dsimp only at hSw); go_simp; try (with_reducible rfl))
  try simp only [Act.put, List.setIfInBounds_toArray, List.set_cons_zero, List.set_cons_succ]
  refine wpAnyH_take (i := 14) (v := ?v43) rfl (by kernel_rfl) (by kernel_rfl) (by kernel_rfl) (fun _ _ _ h => h) (Or.inl ⟨by rfl, ?hy43⟩) (by assumption) ?rest43
  case hy43 => (intro w hSw; (try dsimp only at hSw); go_simp; try (with_reducible rfl))
  try simp only [Act.put, List.setIfInBounds_toArray, List.set_cons_zero, List.set_cons_succ]
  refine wpAnyH_ready (rs := [11, 15]) (by kernel_rfl) (by simp) ?_
  refine AllReadyH.cons rfl (fun K hK => ?_) (AllReadyH.cons rfl (fun K hK => ?_) AllReadyH.nil)
  · go_simp
    refine hK.out _ _ ?_ (fun hHeld => ?_)
    · exact HSC.out _ hbd
    clear hK K
    try simp only [Act.put, List.setIfInBounds_toArray, List.set_cons_zero, List.set_cons_succ]
    refine wpAnyH_ready (rs := [15]) (by kernel_rfl) (by simp) ?_
    refine AllReadyH.cons rfl (fun K hK => ?_) AllReadyH.nil
    go_simp
    refine hK.out _ _ ?_ (fun hHeld => ?_)
    · exact HSC.out _ (hbd.alloc (by simp) _)
    clear hK K
    try simp only [Act.put, List.setIfInBounds_toArray, List.set_cons_zero, List.set_cons_succ]
    refine wpAnyH_ready (rs := [16]) (by kernel_rfl) (by simp) ?_
    refine AllReadyH.cons rfl (fun K hK => ?_) AllReadyH.nil
    go_simp
    refine (show Calls Try.prog 35 _ ((w.alloc (.cells #[.int .i64 y] 3)).drew) _ from HB.out w.drew 3 hbd rfl).mono ?_
    rintro e w1 ⟨A', c', rfl, hr, hb⟩
    try go_simp
    refine hK.out _ _ ?_ (fun hHeld => ?_)
    · exact HSC.out _ hb
    clear hK K
    try simp only [Act.put, List.setIfInBounds_toArray, List.set_cons_zero, List.set_cons_succ]
    obtain ⟨z1, z2, z3⟩ := HKP.out w1 hb
    have HR := Lib.hid hr; have HBL := Lib.hid hb
    clear hr hb
    refine wpAnyH_take (i := 17) (v := ?v44) rfl (by kernel_rfl) (by kernel_rfl) (by kernel_rfl) (fun _ _ _ h => h) (Or.inl ⟨by rfl, ?hy44⟩) (by assumption) ?rest44
    case hy44 => (intro w hSw; (try dsimp only at hSw); go_simp; try (with_reducible rfl))
    try simp only [Act.put, List.setIfInBounds_toArray, List.set_cons_zero, List.set_cons_succ]
    refine wpAnyH_ready (rs := [18]) (by kernel_rfl) (by simp) ?_
    refine AllReadyH.cons rfl (fun K hK => ?_) AllReadyH.nil
    go_simp
    refine hK.out _ _ ?_ (fun hHeld => ?_)
    · exact ⟨(World.cell?_setCell_far _ _ _ _ (by show q ≠ g; exact hgq1)).trans (HSC.out _ HBL.out).1, (World.cell?_setCell_far _ _ _ _ (by show q ≠ bk; exact hqk)).trans (HSC.out _ HBL.out).2⟩
    clear hK K
    try simp only [Act.put, List.setIfInBounds_toArray, List.set_cons_zero, List.set_cons_succ]
    refine wpAnyH_done (by kernel_rfl) ?_ _
    refine NoPanic.normal ?_
    obtain ⟨t1, t2, t3, t4, t5⟩ := HSQ.out w1 HBL.out (.slice A' (k + 1) c')
    have HSF := Lib.hid (fun v => HXF.out w1 HBL.out (.slice A' (k + 1) c') v)
    have HEND := Lib.hid (HF2.out w1 A' c' HBL.out HR.out)
    clear z1 z2 z3 HBL HR HF HB HSC HKP HSQ HXF HF2
    generalize w1.setCell ⟨q, m, none⟩ (.slice A' (k + 1) c') = W4 at *
    clear hHeld
    go_wp2_with fail
    go_region_held3 (fun w' => w'.cell? ⟨g, 8, none⟩ = some (.slice (some ⟨p, 0, none⟩) n pcap))
      (first | with_reducible exact t1 | go_keep)
      (fail)
    all_goals
      have hx := HSF.out (.slice A3 (k2 - 2) (cp - 2))
      go_wp2_with fail
      go_ret
      exact ⟨rfl, HEND.out.drewN 1⟩
  · go_simp
    refine hK.out _ _ ?_ (fun hHeld => ?_)
    · exact HSC.out _ (hbd.alloc (by simp) _)
    clear hK K
    try simp only [Act.put, List.setIfInBounds_toArray, List.set_cons_zero, List.set_cons_succ]
    obtain ⟨y1, y2, y3⟩ := HKP.out _ (hbd.alloc (by simp) (.cells #[.int .i64 y] 3))
    obtain ⟨y4, y5, y6⟩ := HKP.out _ (hbd2.alloc (by simp) (.cells #[.int .i64 y] 3))
    refine wpAnyH_ready (rs := [11]) (by kernel_rfl) (by simp) ?_
    refine AllReadyH.cons rfl (fun K hK => ?_) AllReadyH.nil
    go_simp
    refine hK.out _ _ ?_ (fun hHeld => ?_)
    · exact HSC.out _ (hbd.alloc (by simp) _)
    clear hK K
    try simp only [Act.put, List.setIfInBounds_toArray, List.set_cons_zero, List.set_cons_succ]
    refine wpAnyH_ready (rs := [16]) (by kernel_rfl) (by simp) ?_
    refine AllReadyH.cons rfl (fun K hK => ?_) AllReadyH.nil
    go_simp
    refine (show Calls Try.prog 35 _ ((w.alloc (.cells #[.int .i64 y] 3)).drew) _ from HB.out w.drew 3 hbd rfl).mono ?_
    rintro e w1 ⟨A', c', rfl, hr, hb⟩
    try go_simp
    refine hK.out _ _ ?_ (fun hHeld => ?_)
    · exact HSC.out _ hb
    clear hK K
    try simp only [Act.put, List.setIfInBounds_toArray, List.set_cons_zero, List.set_cons_succ]
    obtain ⟨z1, z2, z3⟩ := HKP.out w1 hb
    have HR := Lib.hid hr; have HBL := Lib.hid hb
    clear hr hb
    refine wpAnyH_take (i := 17) (v := ?v45) rfl (by kernel_rfl) (by kernel_rfl) (by kernel_rfl) (fun _ _ _ h => h) (Or.inl ⟨by rfl, ?hy45⟩) (by assumption) ?rest45
    case hy45 => (intro w hSw; (try dsimp only at hSw); go_simp; try (with_reducible rfl))
    try simp only [Act.put, List.setIfInBounds_toArray, List.set_cons_zero, List.set_cons_succ]
    refine wpAnyH_ready (rs := [18]) (by kernel_rfl) (by simp) ?_
    refine AllReadyH.cons rfl (fun K hK => ?_) AllReadyH.nil
    go_simp
    refine hK.out _ _ ?_ (fun hHeld => ?_)
    · exact ⟨(World.cell?_setCell_far _ _ _ _ (by show q ≠ g; exact hgq1)).trans (HSC.out _ HBL.out).1, (World.cell?_setCell_far _ _ _ _ (by show q ≠ bk; exact hqk)).trans (HSC.out _ HBL.out).2⟩
    clear hK K
    try simp only [Act.put, List.setIfInBounds_toArray, List.set_cons_zero, List.set_cons_succ]
    refine wpAnyH_done (by kernel_rfl) ?_ _
    refine NoPanic.normal ?_
    obtain ⟨t1, t2, t3, t4, t5⟩ := HSQ.out w1 HBL.out (.slice A' (k + 1) c')
    have HSF := Lib.hid (fun v => HXF.out w1 HBL.out (.slice A' (k + 1) c') v)
    have HEND := Lib.hid (HF2.out w1 A' c' HBL.out HR.out)
    clear z1 z2 z3 HBL HR HF HB HSC HKP HSQ HXF HF2
    generalize w1.setCell ⟨q, m, none⟩ (.slice A' (k + 1) c') = W4 at *
    clear hHeld
    go_wp2_with fail
    go_region_held3 (fun w' => w'.cell? ⟨g, 8, none⟩ = some (.slice (some ⟨p, 0, none⟩) n pcap))
      (first | with_reducible exact t1 | go_keep)
      (fail)
    all_goals
      have hx := HSF.out (.slice A3 (k2 - 2) (cp - 2))
      go_wp2_with fail
      go_ret
      exact ⟨rfl, HEND.out.drewN 1⟩
theorem admit_any (H : ChM w B h s) (O : CkOk K n s) (hK : K ≤ 100000) (hN : n ≤ 1000000) (m : Nat) (hm : m < n) :
    Calls Try.prog 36 #[.pointer (some ⟨h.g, 0, none⟩), .int .i64 (m : Int)] w fun e w' => e = .returned (.int .i64 (admitV s m).2) ∧ ChT w w' B h (admitV s m).1 := by
  unfold admitV
  split
  · rename_i x y r hq
    exact admit_some H O hK hN m hm x y r hq
  · rename_i hne
    refine admit_nil H O hN m hm ?_
    have he := O.ev m
    cases hq : gl s.sq m with
    | nil => rfl
    | cons x l =>
      cases l with
      | nil => rw [hq] at he; simp at he
      | cons y r => exact absurd hq (hne x y r)
end
end Go.Proofs.Ytbgigkamlnchcaa
