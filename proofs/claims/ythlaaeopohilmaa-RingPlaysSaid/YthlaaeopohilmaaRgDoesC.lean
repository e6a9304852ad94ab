/-
  The deed that cuts.
-/
import Derived.Test.YthlaaeopohilmaaRgDoes
set_option linter.unusedVariables false
set_option linter.unusedSimpArgs false
namespace Go.Proofs.Ythlaaeopohilmaa
open Go.RowKit Plain

theorem AskI.keep {bS bA bX bK room : Nat} {D : Nat → Prop} {A : Option Addr} {c : Nat} {L : List Int} {k : Int} {pre : List Int} {W W' : World} (h : AskI bS bA bX bK room D A c L k pre W) (hk : ∀ i, (i = bS ∨ i = bA ∨ i = bX ∨ i = bK ∨ D i) → W'.heap[i]? = W.heap[i]?) : AskI bS bA bX bK room D A c L k pre W' := by
  obtain ⟨ha, ⟨b, hs, hb⟩, hx, hkk, hrx⟩ := h
  exact ⟨(hk bA (.inr (.inl rfl))).trans ha, ⟨b, (hk bS (.inl rfl)).trans hs, hb⟩, (hk bX (.inr (.inr (.inl rfl)))).trans hx, (hk bK (.inr (.inr (.inr (.inl rfl))))).trans hkk, hrx.keep (fun i hi _ => hk i (.inr (.inr (.inr (.inr hi)))))⟩

set_option maxRecDepth 100000 in
set_option maxHeartbeats 4000000 in
theorem does_cut (g s room first : Nat) (L : List Int) (A : Option Addr) (c : Nat) (w : World) (D : Nat → Prop) (v : Int) (h : RgI w g s room first L) (hx : RX w D A c L) (hDg : ¬ D g) (hDs : ¬ D s) (hv1 : -9223372036854775808 ≤ v) (hv2 : v ≤ 9223372036854775807) :
    Calls Try.prog 10 #[.pointer (some ⟨g, 0, none⟩), .agg #[.int .i64 (room : Int), .slice A L.length c], .agg #[.int .i64 2, .int .i64 v]] w (DoesPost g s room (cutL (aroundV v 3) L) D w) := by
  have hl1 := h.len
  have hl2 := h.hi
  have hgs := h.lt
  have hdw := DoW.new w 2 v h hx
  obtain ⟨W3, hW3⟩ : ∃ W, W = ((w.alloc (.cells #[.int .i64 (room : Int), .slice A L.length c] 27)).alloc (.cells #[.int .i64 2, .int .i64 v] 32)).alloc (.cells #[.int .i64 0, .slice none 0 0] 27) := ⟨_, rfl⟩
  rw [← hW3] at hdw
  have HDW := Lib.hid hdw; have HW3 := Lib.hid hW3
  have zd := hdw.b6.lt
  clear h hx hdw hW3
  have har := fun W => around_any v 3 W hv1 hv2 (by omega) (by omega)
  have hkv := aroundV_lt (n := v) (m := 3) (by omega)
  generalize hkvd : aroundV v 3 = kv at *
  have HAR := Lib.hid har; have HKV := Lib.hid hkvd
  clear har hkvd
  go_enter Try.func10, Try.ntmps10
  go_upto_region 1 with fail
  rw [← HW3.out]
  clear HW3
  have x0 : W3.cell? ⟨w.heap.size, 0, none⟩ = some (.int .i64 (room : Int)) := (HDW.out.b4.cell 0).trans rfl
  have x1 : W3.cell? ⟨w.heap.size, 1, none⟩ = some (.slice A L.length c) := (HDW.out.b4.cell 1).trans rfl
  have d0 : W3.cell? ⟨w.heap.size + 1, 0, none⟩ = some (.int .i64 2) := (HDW.out.b5.cell 0).trans rfl
  have d1 : W3.cell? ⟨w.heap.size + 1, 1, none⟩ = some (.int .i64 v) := (HDW.out.b5.cell 1).trans rfl
  go_wp2_with fail
  refine (HAR.out _).mono ?_
  rintro e w' ⟨rfl, rfl⟩
  clear HAR
  obtain ⟨bK, hbK⟩ : ∃ b, b = W3.heap.size := ⟨_, rfl⟩
  have a4 := HDW.out.b4.alloc (.cells #[.int .i64 kv] 3)
  have a5 := HDW.out.b5.alloc (.cells #[.int .i64 kv] 3)
  have a6 := HDW.out.b6.alloc (.cells #[.int .i64 kv] 3)
  have ar := HDW.out.ring.alloc (.cells #[.int .i64 kv] 3)
  have ax := HDW.out.rx.alloc (.cells #[.int .i64 kv] 3)
  have ab := HDW.out.bel.alloc HDW.out.bel.size (.cells #[.int .i64 kv] 3)
  have aK := Blk.new W3 3 #[.int .i64 kv]
  have az : (W3.alloc (.cells #[.int .i64 kv] 3)).heap.size = W3.heap.size + 1 := by simp
  obtain ⟨W4, hW4⟩ : ∃ W, W = W3.alloc (.cells #[.int .i64 kv] 3) := ⟨_, rfl⟩
  rw [← hW4] at a4 a5 a6 ar ax ab aK az
  rw [← hbK] at aK az
  have zK : w.heap.size + 1 + 1 < bK := by omega
  have A4 := Lib.hid a4; have A5 := Lib.hid a5; have A6 := Lib.hid a6; have AR := Lib.hid ar; have AX := Lib.hid ax; have AB := Lib.hid ab; have AK := Lib.hid aK
  have HW4 := Lib.hid hW4; have HBK := Lib.hid hbK; have AZ := Lib.hid az
  clear a4 a5 a6 ar ax ab aK az hW4 hbK x0 x1 d0 d1 HDW
  go_upto_region 12 with fail
  rw [← HW4.out, ← HBK.out]
  clear HW4 HBK
  have x0 : W4.cell? ⟨w.heap.size, 0, none⟩ = some (.int .i64 (room : Int)) := (A4.out.cell 0).trans rfl
  have x1 : W4.cell? ⟨w.heap.size, 1, none⟩ = some (.slice A L.length c) := (A4.out.cell 1).trans rfl
  have kk0 : W4.cell? ⟨bK, 0, none⟩ = some (.int .i64 kv) := (AK.out.cell 0).trans rfl
  go_wp2_with fail
  refine (refCut_any room A c L W4 kv hkv (by omega) _ AX.out).mono ?_
  rintro e w5 ⟨A', c', rfl, hrx, hb⟩
  have zb := hb.size
  have hsum := cutL_sum kv L
  obtain ⟨L2, hL2⟩ : ∃ x, x = cutL kv L := ⟨_, rfl⟩
  obtain ⟨C, hC⟩ : ∃ x, x = (L.filter (cutB kv)).length := ⟨_, rfl⟩
  rw [← hL2] at hrx hsum ⊢
  rw [← hC] at hsum ⊢
  have HL2 := Lib.hid hL2; have HC := Lib.hid hC
  have hx5 : RX w5 (fun i => w.heap.size + 1 + 1 + 1 ≤ i ∧ i < w5.heap.size) A' c' L2 := hrx.mono (fun i h1 h2 => ⟨by have := AZ.out; omega, h2⟩)
  have a4 := A4.out.below hb A4.out.lt
  have a6 := A6.out.below hb A6.out.lt
  have aK := AK.out.below hb AK.out.lt
  have ar := AR.out.below hb AR.out.lt.1 AR.out.lt.2
  have ax := AX.out.below hb (Nat.le_refl _)
  have ab := AB.out.trans (hb.mono AB.out.size)
  obtain ⟨bN, hbN⟩ : ∃ b, b = w5.heap.size := ⟨_, rfl⟩
  obtain ⟨W8, hW8⟩ : ∃ W, W = ((w5.alloc (.cells #[.int .i64 (room : Int), .slice A' L2.length c'] 27)).alloc (.cells #[.int .i64 0] 3)).alloc (.cells #[.bool true] 4) := ⟨_, rfl⟩
  have g4 := ((a4.alloc (.cells #[.int .i64 (room : Int), .slice A' L2.length c'] 27)).alloc (.cells #[.int .i64 0] 3)).alloc (.cells #[.bool true] 4)
  have g6 := ((a6.alloc (.cells #[.int .i64 (room : Int), .slice A' L2.length c'] 27)).alloc (.cells #[.int .i64 0] 3)).alloc (.cells #[.bool true] 4)
  have gK := ((aK.alloc (.cells #[.int .i64 (room : Int), .slice A' L2.length c'] 27)).alloc (.cells #[.int .i64 0] 3)).alloc (.cells #[.bool true] 4)
  have gr := ((ar.alloc (.cells #[.int .i64 (room : Int), .slice A' L2.length c'] 27)).alloc (.cells #[.int .i64 0] 3)).alloc (.cells #[.bool true] 4)
  have gx := ((ax.alloc (.cells #[.int .i64 (room : Int), .slice A' L2.length c'] 27)).alloc (.cells #[.int .i64 0] 3)).alloc (.cells #[.bool true] 4)
  have gy := ((hx5.alloc (.cells #[.int .i64 (room : Int), .slice A' L2.length c'] 27)).alloc (.cells #[.int .i64 0] 3)).alloc (.cells #[.bool true] 4)
  have gb := ((ab.alloc ab.size (.cells #[.int .i64 (room : Int), .slice A' L2.length c'] 27)).alloc (by have := ab.size; simp; omega) (.cells #[.int .i64 0] 3)).alloc (by have := ab.size; simp; omega) (.cells #[.bool true] 4)
  have gN := ((Blk.new w5 27 #[.int .i64 (room : Int), .slice A' L2.length c']).alloc (.cells #[.int .i64 0] 3)).alloc (.cells #[.bool true] 4)
  have gA := (Blk.new (w5.alloc (.cells #[.int .i64 (room : Int), .slice A' L2.length c'] 27)) 3 #[.int .i64 0]).alloc (.cells #[.bool true] 4)
  have gS := Blk.new ((w5.alloc (.cells #[.int .i64 (room : Int), .slice A' L2.length c'] 27)).alloc (.cells #[.int .i64 0] 3)) 4 #[.bool true]
  simp only [World.size_alloc] at gA gS
  have gz : (((w5.alloc (.cells #[.int .i64 (room : Int), .slice A' L2.length c'] 27)).alloc (.cells #[.int .i64 0] 3)).alloc (.cells #[.bool true] 4)).heap.size = w5.heap.size + 1 + 1 + 1 := by simp
  rw [← hW8] at g4 g6 gK gr gx gy gb gN gA gS gz
  rw [← hbN] at gy gN gA gS gz
  have hAz := AZ.out
  have zN : bK < bN := by omega
  have ask0 : AskI (bN + 1 + 1) (bN + 1) w.heap.size bK room (fun i => D i ∧ i < w.heap.size) A c L kv [] W8 := ⟨by simpa using gA, ⟨true, gS, fun _ => rfl⟩, g4, gK, gx⟩
  have hcut := cut_any_t g s room first L W8 gr (cutB kv) 31 #[.pointer (some ⟨bN + 1 + 1, 0, none⟩), .pointer (some ⟨bN + 1, 0, none⟩), .pointer (some ⟨w.heap.size, 0, none⟩), .pointer (some ⟨bK, 0, none⟩)]
    (fun i => i = bN + 1 + 1 ∨ i = bN + 1) (fun i => i = bN + 1 + 1 ∨ i = bN + 1 ∨ i = w.heap.size ∨ i = bK ∨ (D i ∧ i < w.heap.size))
    (fun pre W => AskI (bN + 1 + 1) (bN + 1) w.heap.size bK room (fun i => D i ∧ i < w.heap.size) A c L kv pre W) (by intro args W; go_simp)
    (fun pre W W' h hk => h.keep hk) (fun i hi => by omega)
    (fun i hi => by
      rcases hi with h | h | h | h | h
      · omega
      · omega
      · omega
      · omega
      · refine ⟨by omega, fun e => hDg (e ▸ h.1), fun e => hDs (e ▸ h.1)⟩)
    (fun pre x W hJ hlen hz => ask_any _ _ _ _ room _ A c L kv pre x W hJ hlen (by omega) (by omega) (by omega) (by omega) (by omega) (by omega) (fun h => by omega) (fun h => by omega))
    ask0
  have G6 := Lib.hid g6; have GY := Lib.hid gy; have GB := Lib.hid gb; have GN := Lib.hid gN; have HCUT := Lib.hid hcut; have HW8 := Lib.hid hW8; have HBN := Lib.hid hbN; have GZ := Lib.hid gz
  clear g4 g6 gK gr gx gy gb gN gA gS gz ask0 hcut a4 a6 aK ar ax ab hb hrx hx5 hL2 hC hW8 hbN A4 A5 A6 AR AX AB AK x0 x1 kk0
  go_wp2_with fail
  rw [← HW8.out, ← HBN.out]
  clear HW8 HBN
  have hcl := HCUT.out
  rw [← HC.out, show (L.filter fun x => !cutB kv x) = L2 from HL2.out.symm] at hcl
  refine hcl.mono ?_
  rintro e w9 ⟨rfl, hq, hask, hf⟩
  obtain ⟨sm, hsb, hsm⟩ := hask.s
  have hsm2 : sm = true := hsm (by simp)
  subst hsm2
  have k6 := hf.blk G6.out (by omega)
  have kN := hf.blk GN.out (by omega)
  have kx := GY.out.fr hf (fun i h1 h2 h3 => by rcases h3 with (h | h) | h | h <;> omega)
  have k4 := hask.x
  have kA := hask.a
  clear hcl HCUT hsm hask
  have x0 : w9.cell? ⟨w.heap.size, 0, none⟩ = some (.int .i64 (room : Int)) := (k4.cell 0).trans rfl
  have x1 : w9.cell? ⟨w.heap.size, 1, none⟩ = some (.slice A L.length c) := (k4.cell 1).trans rfl
  have n0 : w9.cell? ⟨bN, 0, none⟩ = some (.int .i64 (room : Int)) := (kN.cell 0).trans rfl
  have n1 : w9.cell? ⟨bN, 1, none⟩ = some (.slice A' L2.length c') := (kN.cell 1).trans rfl
  have a0 : w9.cell? ⟨bN + 1, 0, none⟩ = some (.int .i64 (L.length : Int)) := (kA.cell 0).trans rfl
  have sb0 : w9.cell? ⟨bN + 1 + 1, 0, none⟩ = some (.bool true) := (hsb.cell 0).trans rfl
  have t0 : w9.cell? ⟨w.heap.size + 1 + 1, 0, none⟩ = some (.int .i64 0) := (k6.cell 0).trans rfl
  have u0 : w9.frozen? ⟨w.heap.size + 1 + 1, 0, none⟩ = false := k6.frozen 0
  have t1 : w9.cell? ⟨w.heap.size + 1 + 1, 1, none⟩ = some (.slice none 0 0) := (k6.cell 1).trans rfl
  have u1 : w9.frozen? ⟨w.heap.size + 1 + 1, 1, none⟩ = false := k6.frozen 1
  have hst : ∀ (q : Addr), q.block ≠ w.heap.size + 1 + 1 → (((w9.setCell ⟨w.heap.size + 1 + 1, 0, none⟩ (.int .i64 (room : Int))).setCell ⟨w.heap.size + 1 + 1, 1, none⟩ (.slice A' L2.length c')).drew).cell? q = w9.cell? q := fun q hp => by
    show ((w9.setCell ⟨w.heap.size + 1 + 1, 0, none⟩ (.int .i64 (room : Int))).setCell ⟨w.heap.size + 1 + 1, 1, none⟩ (.slice A' L2.length c')).cell? q = _
    rw [World.cell?_setCell_other _ _ _ _ (fun e => hp (by subst e; rfl)), World.cell?_setCell_other _ _ _ _ (fun e => hp (by subst e; rfl))]
  have y1 := (hst ⟨w.heap.size, 1, none⟩ (by show w.heap.size ≠ _; omega)).trans x1
  have y2 := (hst ⟨bN, 0, none⟩ (by show bN ≠ _; omega)).trans n0
  have y3 := (hst ⟨bN, 1, none⟩ (by show bN ≠ _; omega)).trans n1
  have y4 := (hst ⟨bN + 1, 0, none⟩ (by show bN + 1 ≠ _; omega)).trans a0
  have y5 := (hst ⟨bN + 1 + 1, 0, none⟩ (by show bN + 1 + 1 ≠ _; omega)).trans sb0
  have hff : Fr (fun i => i = g ∨ i = s) w w9 := (((Fr.of_below GB.out).mono (S := fun i => i = g ∨ i = s) (fun i hi h => by omega)).trans hf (fun i hi h => by rcases h with h | h; exact h; omega))
  have hE := does_end (D := D) (k6.drew) (hq.drew) ((kx.fr ((Fr.refl (fun _ => False) w9).drew) (fun _ _ _ h => h)).mono (E := DE w D) (fun i h1 _ => .inr h1.1)) (n := L2.length) (hff.drew) hgs rfl
  have HE := Lib.hid hE
  clear hE hst k6 kN kx k4 kA hsb hq hf hff G6 GY GB GN
  go_wp2_with fail
  go_region_held3 (fun w' => w'.cell? ⟨w.heap.size, 1, none⟩ = some (.slice A L.length c) ∧ w'.cell? ⟨bN, 0, none⟩ = some (.int .i64 (room : Int)) ∧ w'.cell? ⟨bN, 1, none⟩ = some (.slice A' L2.length c') ∧ w'.cell? ⟨bN + 1, 0, none⟩ = some (.int .i64 (L.length : Int)) ∧ w'.cell? ⟨bN + 1 + 1, 0, none⟩ = some (.bool true))
    (first | with_reducible exact ⟨x1, n0, n1, a0, sb0⟩ | with_reducible exact ⟨y1, y2, y3, y4, y5⟩ | go_keep)
    (fail)
  all_goals
    clear y1 y2 y3 y4 y5
    go_wp2_with fail
    rw [← HL2.out]
    refine bodyPost_ret (v := .tuple #[.agg #[.int .i64 (room : Int), .slice A' L2.length c'], .bool true]) (res_cell_slot rfl _ _ (w.heap.size + 1 + 1) 27 _ (0, 0) _ _ rfl rfl HE.out.2 Try.underlying27 rfl (by kernel_rfl)) rfl HE.out.1

/-- A deed, whatever its kind. -/
theorem does_any (g s room first : Nat) (L : List Int) (A : Option Addr) (c : Nat) (w : World) (D : Nat → Prop) (kind v : Int) (h : RgI w g s room first L) (hx : RX w D A c L) (hDg : ¬ D g) (hDs : ¬ D s) (hv1 : -9223372036854775808 ≤ v) (hv2 : v ≤ 9223372036854775807) :
    Calls Try.prog 10 #[.pointer (some ⟨g, 0, none⟩), .agg #[.int .i64 (room : Int), .slice A L.length c], .agg #[.int .i64 kind, .int .i64 v]] w (DoesPost g s room (stepL room kind v L) D w) := by
  unfold stepL
  by_cases h0 : kind = 0
  · subst h0
    rw [if_pos rfl]
    by_cases hl : L.length < room
    · rw [if_pos hl]
      exact does_push_yes g s room first L A c w D v h hx hDg hDs hv1 hv2 hl
    · rw [if_neg hl]
      exact does_push_no g s room first L A c w D v h hx hDg hDs hv1 hv2 hl
  · rw [if_neg h0]
    by_cases h1 : kind = 1
    · subst h1
      rw [if_pos rfl]
      cases hL : L with
      | nil =>
        have := does_pop_no g s room first L A c w D v h hx hDg hDs hv1 hv2 hL
        rw [hL] at this
        exact this
      | cons y r =>
        have := does_pop_yes g s room first L A c w D v h hx hDg hDs hv1 hv2 y r hL
        rw [hL] at this
        exact this
    · rw [if_neg h1]
      by_cases h2 : kind = 2
      · subst h2
        rw [if_pos rfl]
        exact does_cut g s room first L A c w D v h hx hDg hDs hv1 hv2
      · rw [if_neg h2]
        have b0 : (kind == 0) = false := by simpa using h0
        have b1 : (kind == 1) = false := by simpa using h1
        have b2 : (kind == 2) = false := by simpa using h2
        by_cases hn : v < 0
        · exact does_at_neg g s room first L A c w D v h hx hDg hDs hv1 hv2 kind b0 b1 b2 hn
        · by_cases hf : (L.length : Int) ≤ v
          · exact does_at_far g s room first L A c w D v h hx hDg hDs hv1 hv2 kind b0 b1 b2 (by omega) hf
          · obtain ⟨i, hi⟩ := Int.eq_ofNat_of_zero_le (show 0 ≤ v by omega)
            have hil : i < L.length := by omega
            exact does_at_in g s room first L A c w D v h hx hDg hDs hv1 hv2 kind b0 b1 b2 i hi _ (List.getElem?_eq_getElem hil)
end Go.Proofs.Ythlaaeopohilmaa
