
/-
  The document's pool: Give.
-/
import Derived.Test.YtipflplilkecjaaDqE
set_option linter.unusedVariables false
set_option linter.unusedSimpArgs false
namespace Go.Proofs.Ytipflplilkecjaa
open Go.RowKit Plain

section
variable (room : Nat) (lA gA : Option Addr) (lc gc : Nat) (L : List (List Int)) (Q : List Int) (w : World) (E : Nat → Prop) (h : DocP w E lA lc gA gc L Q) (N M : Nat) (hN : L.length = N) (hM : Q.length = M) (hN64 : N ≤ 64) (hM6 : M ≤ 1000000) (hr8 : room ≤ 8) (hlr : ∀ (i : Nat) (l : List Int), L[i]? = some l → l.length ≤ room)
include h hN hM hN64 hM6 hr8 hlr
set_option maxRecDepth 100000 in
set_option maxHeartbeats 4000000 in
theorem refGive7 (i x : Int) : Calls Try.prog 33 #[.agg (DocV room lA N lc gA M gc), .int .i64 i, .int .i64 x] w fun e w' => ∃ v, e = .returned (.tuple #[v, .int .i64 (giveP room L Q i x).2]) ∧ DocR w w' E room N (giveP room L Q i x).1.1 (giveP room L Q i x).1.2 v := by
  have hT := Two.new w room lA N lc gA M gc
  have HT := Lib.hid hT
  have his := fun W => is_any room lA gA lc gc W N M i
  have HIS := Lib.hid his
  have hMM := hM
  clear hT his
  unfold giveP
  by_cases hi : 0 ≤ i ∧ i < (L.length : Int)
  · rw [if_pos hi]
    obtain ⟨k, rfl⟩ : ∃ k : Nat, i = (k : Int) := ⟨i.toNat, by omega⟩
    have hkL : k < L.length := by omega
    have hx : L[k]? = some L[k] := List.getElem?_eq_getElem hkL
    have hlk := hlr k _ hx
    generalize L[k] = l at *
    simp only [Int.toNat_natCast, hx, Option.getD_some]
    have hk0 : (0 : Int) ≤ (k : Int) := by omega
    have hk1 : (k : Int) < (N : Int) := by omega
    by_cases hl : l.length < room
    · rw [if_pos hl]
      go_enter Try.func33, Try.ntmps33
      go_wp2_with fail
      refine (HIS.out _).mono ?_
      rintro e W0 ⟨rfl, hbi⟩
      rw [decide_eq_true ⟨hk0, hk1⟩]
      have HT0 := Lib.hid (HT.out.below hbi)
      clear hbi HT
      obtain ⟨p0, p1, p2, pz⟩ := HT0.out.xs
      obtain ⟨⟨q0, q1, q2⟩, qz0, qz1, qz2⟩ := HT0.out.ys
      obtain ⟨ad, A, c, e0, hab, hcr, hrx⟩ := h.at_ hx
      subst e0
      obtain ⟨n, hn⟩ : ∃ n, l.length = n := ⟨_, rfl⟩
      rw [hn] at hcr
      have hcr0 := (HT0.out.bel.cell (p := ad.add k) (by rw [block_of_add]; exact hab)).trans hcr
      have hd0 := ((h.mono (E' := fun k => E k ∧ k < w.heap.size) (fun k e hk => ⟨e, hk⟩)).below HT0.out.bel (Nat.le_refl _)).mono (E' := fun k => (E k ∧ k < w.heap.size) ∨ W0.heap.size ≤ k) (fun k e _ => .inl e)
      have hx0 := ((hrx.mono (E := fun k => E k ∧ k < w.heap.size) (fun k e hk => ⟨e, hk⟩)).below HT0.out.bel (Nat.le_refl _)).mono (E := fun k => (E k ∧ k < w.heap.size) ∨ W0.heap.size ≤ k) (fun k e _ => .inl e)
      have hwz := HT0.out.bel.size
      have hbl1 := HT0.out.b1.lt
      have hbl2 := HT0.out.b2.lt
      have hkeep : ∀ W, Below W0.heap.size W0 W → (W.cell? ⟨w.heap.size, 0, none⟩ = some (.int .i64 (room : Int)) ∧ W.cell? ⟨w.heap.size, 1, none⟩ = some (.slice (some ad) N lc) ∧ W.cell? ⟨w.heap.size, 2, none⟩ = some (.slice gA M gc) ∧ W.cell? (ad.add k) = some (.slice A n c)) ∧ (W.cell? ⟨w.heap.size + 1, 0, none⟩ = some (.int .i64 0) ∧ W.cell? ⟨w.heap.size + 1, 1, none⟩ = some (.slice none 0 0) ∧ W.cell? ⟨w.heap.size + 1, 2, none⟩ = some (.slice none 0 0)) ∧ W.frozen? ⟨w.heap.size + 1, 0, none⟩ = false ∧ W.frozen? ⟨w.heap.size + 1, 1, none⟩ = false ∧ W.frozen? ⟨w.heap.size + 1, 2, none⟩ = false := fun W hb => by
        have ht := HT0.out.below hb
        obtain ⟨p0, p1, p2, _⟩ := ht.xs
        obtain ⟨q0, qz⟩ := ht.ys
        exact ⟨⟨p0, p1, p2, (hb.cell (p := ad.add k) (by rw [block_of_add]; omega)).trans hcr0⟩, q0, qz⟩
      have hk3 : ∀ (W : World) (a b e : Value), (W.cell? ⟨w.heap.size, 0, none⟩ = some (.int .i64 (room : Int)) ∧ W.cell? ⟨w.heap.size, 1, none⟩ = some (.slice (some ad) N lc) ∧ W.cell? ⟨w.heap.size, 2, none⟩ = some (.slice gA M gc) ∧ W.cell? (ad.add k) = some (.slice A n c)) → ((((W.setCell ⟨w.heap.size + 1, 0, none⟩ a).setCell ⟨w.heap.size + 1, 1, none⟩ b).setCell ⟨w.heap.size + 1, 2, none⟩ e).cell? ⟨w.heap.size, 0, none⟩ = some (.int .i64 (room : Int)) ∧ (((W.setCell ⟨w.heap.size + 1, 0, none⟩ a).setCell ⟨w.heap.size + 1, 1, none⟩ b).setCell ⟨w.heap.size + 1, 2, none⟩ e).cell? ⟨w.heap.size, 1, none⟩ = some (.slice (some ad) N lc) ∧ (((W.setCell ⟨w.heap.size + 1, 0, none⟩ a).setCell ⟨w.heap.size + 1, 1, none⟩ b).setCell ⟨w.heap.size + 1, 2, none⟩ e).cell? ⟨w.heap.size, 2, none⟩ = some (.slice gA M gc) ∧ (((W.setCell ⟨w.heap.size + 1, 0, none⟩ a).setCell ⟨w.heap.size + 1, 1, none⟩ b).setCell ⟨w.heap.size + 1, 2, none⟩ e).cell? (ad.add k) = some (.slice A n c)) := fun W a b e g => by
        have hc := fun (p : Addr) (hp : p.block ≠ w.heap.size + 1) => set3_other W (w.heap.size + 1) a b e p hp
        exact ⟨(hc _ (by simp)).trans g.1, (hc _ (by simp)).trans g.2.1, (hc _ (by simp)).trans g.2.2.1, (hc _ (by rw [block_of_add]; omega)).trans g.2.2.2⟩
      have HK3 := Lib.hid hk3
      clear hk3
      have hnn : (l ++ [x]).length = n + 1 := by rw [List.length_append, hn]; rfl
      rw [hn] at hl
      have hwith : ∀ (w1 : World) (A1 : Option Addr) (c1 : Nat), RX w1 (fun k => (E k ∧ k < w.heap.size) ∨ W0.heap.size ≤ k) A1 c1 (l ++ [x]) ∧ Below W0.heap.size W0 w1 → ∀ W, Below w1.heap.size w1 W → Calls Try.prog 47 #[.agg (DocV room (some ad) N lc gA M gc), .int .i64 (k : Int), .slice A1 (n + 1) c1] W fun e w2 =>
          ∃ lA' lc', e = .returned (.agg (DocV room lA' N lc' gA M gc)) ∧ Hid (DocP w2 (fun k => (E k ∧ k < w.heap.size) ∨ W0.heap.size ≤ k) lA' lc' gA gc (L.set k (l ++ [x])) Q ∧ Below W0.heap.size W0 w2) ∧ (w2.cell? ⟨w.heap.size, 0, none⟩ = some (.int .i64 (room : Int)) ∧ w2.cell? ⟨w.heap.size, 1, none⟩ = some (.slice (some ad) N lc) ∧ w2.cell? ⟨w.heap.size, 2, none⟩ = some (.slice gA M gc) ∧ w2.cell? (ad.add k) = some (.slice A n c)) ∧ (w2.cell? ⟨w.heap.size + 1, 0, none⟩ = some (.int .i64 0) ∧ w2.cell? ⟨w.heap.size + 1, 1, none⟩ = some (.slice none 0 0) ∧ w2.cell? ⟨w.heap.size + 1, 2, none⟩ = some (.slice none 0 0)) ∧ w2.frozen? ⟨w.heap.size + 1, 0, none⟩ = false ∧ w2.frozen? ⟨w.heap.size + 1, 1, none⟩ = false ∧ w2.frozen? ⟨w.heap.size + 1, 2, none⟩ = false := fun w1 A1 c1 h1 W hW => by
        have hbW : Below W0.heap.size W0 W := h1.2.trans (hW.mono h1.2.size)
        have hrW : RX W (fun k => (E k ∧ k < w.heap.size) ∨ W0.heap.size ≤ k) A1 c1 (l ++ [x]) := h1.1.below hW (Nat.le_refl _)
        refine (with_any room (some ad) gA lc gc L Q W k (l ++ [x]) A1 c1 (n + 1) (fun k => (E k ∧ k < w.heap.size) ∨ W0.heap.size ≤ k) (hd0.below hbW (Nat.le_refl _)) hkL hrW hnn N M hN hN64).mono ?_
        rintro e w2 ⟨lA', lc', rfl, q1, q2⟩
        have hb2 := hbW.trans (q2.mono hbW.size)
        obtain ⟨g1, g2, g3⟩ := hkeep w2 hb2
        have hWz := hbW.size
        exact ⟨lA', lc', rfl, Lib.hid ⟨q1.mono (fun k h _ => by rcases h with h | h; exact h; exact .inr (by omega)), hb2⟩, g1, g2, g3⟩
      have hand : ∀ W, Below W0.heap.size W0 W → Calls Try.prog 48 #[.slice A n c, .int .i64 x] W fun e w1 => ∃ A1 c1, e = .returned (.slice A1 (n + 1) c1) ∧ Hid (RX w1 (fun k => (E k ∧ k < w.heap.size) ∨ W0.heap.size ≤ k) A1 c1 (l ++ [x]) ∧ Below W0.heap.size W0 w1) ∧ (w1.cell? ⟨w.heap.size, 0, none⟩ = some (.int .i64 (room : Int)) ∧ w1.cell? ⟨w.heap.size, 1, none⟩ = some (.slice (some ad) N lc) ∧ w1.cell? ⟨w.heap.size, 2, none⟩ = some (.slice gA M gc) ∧ w1.cell? (ad.add k) = some (.slice A n c)) ∧ (w1.cell? ⟨w.heap.size + 1, 0, none⟩ = some (.int .i64 0) ∧ w1.cell? ⟨w.heap.size + 1, 1, none⟩ = some (.slice none 0 0) ∧ w1.cell? ⟨w.heap.size + 1, 2, none⟩ = some (.slice none 0 0)) ∧ w1.frozen? ⟨w.heap.size + 1, 0, none⟩ = false ∧ w1.frozen? ⟨w.heap.size + 1, 1, none⟩ = false ∧ w1.frozen? ⟨w.heap.size + 1, 2, none⟩ = false := fun W hW => by
        have hbW := hW
        have hq := and_any A c l x W W0.heap.size (hx0.reads.below hbW) hbW.size (by omega)
        rw [hn] at hq
        refine hq.mono ?_
        rintro e w1 ⟨v, rfl, hown, hb⟩
        obtain ⟨A1, c1, hv, hc1, hr1⟩ := hown.slice
        rw [hnn] at hv
        subst hv
        have hb1 := hbW.trans (hb.mono hbW.size)
        obtain ⟨g1, g2, g3⟩ := hkeep w1 hb1
        have hWz := hbW.size
        exact ⟨A1, c1, rfl, Lib.hid ⟨(RX.of_own_n hnn hown).mono (fun k h _ => .inr (by omega)), hb1⟩, g1, g2, g3⟩
      have HAND := Lib.hid hand; have HWITH := Lib.hid hwith; have HM := Lib.hid hM
      obtain ⟨⟨-, -, -, s3⟩, -⟩ := hkeep W0 (Below.refl _ _)
      have hlt : (n : Int) < (room : Int) := by omega
      have hadb : ad.block < w.heap.size := hab
      clear hand hwith h hlr hlk hd0 hx0 hcr hcr0 hrx hkeep hx hn hi hkL hnn hM hMM hN HIS hl
      go_wp2_with fail
      go_quiet (fail)
      go_wp2_with fail
      go_region_held3 (fun w' => w'.cell? ⟨w.heap.size, 0, none⟩ = some (.int .i64 (room : Int)) ∧ w'.cell? ⟨w.heap.size, 1, none⟩ = some (.slice (some ad) N lc) ∧ w'.cell? ⟨w.heap.size, 2, none⟩ = some (.slice gA M gc) ∧ w'.cell? (ad.add k) = some (.slice A n c))
        (first | with_reducible exact ⟨p0, p1, p2, s3⟩ | with_reducible exact G1 | with_reducible exact G2 | with_reducible exact HK3.out _ _ _ _ G2 | go_keep)
        (first
          | (go_simp; with_reducible refine (HAND.out _ (by first | with_reducible exact Below.refl _ _ | exact (Below.refl _ _).drew | exact below_drews (Below.refl _ _) _ | exact (below_drews (Below.refl _ _) _).drew | exact below_drews ((Below.refl _ _).drew) _)).mono ?_
             rintro e w1 ⟨A1, c1, rfl, HR1, G1, G1y, g1a, g1b, g1c⟩
             obtain ⟨t0, t1, t2, t3⟩ := G1
             have G1 := (⟨t0, t1, t2, t3⟩ : w1.cell? ⟨w.heap.size, 0, none⟩ = some (.int .i64 (room : Int)) ∧ w1.cell? ⟨w.heap.size, 1, none⟩ = some (.slice (some ad) N lc) ∧ w1.cell? ⟨w.heap.size, 2, none⟩ = some (.slice gA M gc) ∧ w1.cell? (ad.add k) = some (.slice A n c)))
          | (go_simp; with_reducible refine (HWITH.out _ _ _ HR1.out _ (by first | with_reducible exact Below.refl _ _ | exact (Below.refl _ _).drew | exact below_drews (Below.refl _ _) _ | exact (below_drews (Below.refl _ _) _).drew | exact below_drews ((Below.refl _ _).drew) _)).mono ?_
             rintro e w2 ⟨lA2, lc2, rfl, HR2, G2, ⟨v0, v1, v2⟩, vz0, vz1, vz2⟩)
          | fail)
      all_goals
        go_wp2_with fail
        obtain ⟨hd2, hb2⟩ := HR2.out
        have hT2 := HT0.out.below hb2
        obtain ⟨f1, f2⟩ := hT2.fin (.int .i64 (room : Int)) (.slice lA2 N lc2) (.slice gA M gc)
        refine bodyPost_ret (v := .tuple #[.agg (DocV room lA2 N lc2 gA M gc), .int .i64 0]) (res_cell_slot rfl _ _ (w.heap.size + 1) 28 _ (0, 0) _ _ rfl rfl f1 Try.underlying28 rfl (by kernel_rfl)) rfl ?_
        exact ⟨_, rfl, DocR.of HM.out (fin_doc hd2 hbl2 hwz) (hT2.bel.trans f2)⟩
    · rw [if_neg hl]
      go_enter Try.func33, Try.ntmps33
      go_wp2_with fail
      refine (HIS.out _).mono ?_
      rintro e W0 ⟨rfl, hbi⟩
      rw [decide_eq_true ⟨hk0, hk1⟩]
      have HT0 := Lib.hid (HT.out.below hbi)
      clear hbi HT
      obtain ⟨p0, p1, p2, pz⟩ := HT0.out.xs
      obtain ⟨⟨q0, q1, q2⟩, qz0, qz1, qz2⟩ := HT0.out.ys
      obtain ⟨ad, A, c, e0, hab, hcr, hrx⟩ := h.at_ hx
      subst e0
      obtain ⟨n, hn⟩ : ∃ n, l.length = n := ⟨_, rfl⟩
      rw [hn] at hcr
      have hcr0 := (HT0.out.bel.cell (p := ad.add k) (by rw [block_of_add]; exact hab)).trans hcr
      have hd0 := ((h.mono (E' := fun k => E k ∧ k < w.heap.size) (fun k e hk => ⟨e, hk⟩)).below HT0.out.bel (Nat.le_refl _)).mono (E' := fun k => (E k ∧ k < w.heap.size) ∨ W0.heap.size ≤ k) (fun k e _ => .inl e)
      have hx0 := ((hrx.mono (E := fun k => E k ∧ k < w.heap.size) (fun k e hk => ⟨e, hk⟩)).below HT0.out.bel (Nat.le_refl _)).mono (E := fun k => (E k ∧ k < w.heap.size) ∨ W0.heap.size ≤ k) (fun k e _ => .inl e)
      have hwz := HT0.out.bel.size
      have hbl1 := HT0.out.b1.lt
      have hbl2 := HT0.out.b2.lt
      have hkeep : ∀ W, Below W0.heap.size W0 W → (W.cell? ⟨w.heap.size, 0, none⟩ = some (.int .i64 (room : Int)) ∧ W.cell? ⟨w.heap.size, 1, none⟩ = some (.slice (some ad) N lc) ∧ W.cell? ⟨w.heap.size, 2, none⟩ = some (.slice gA M gc) ∧ W.cell? (ad.add k) = some (.slice A n c)) ∧ (W.cell? ⟨w.heap.size + 1, 0, none⟩ = some (.int .i64 0) ∧ W.cell? ⟨w.heap.size + 1, 1, none⟩ = some (.slice none 0 0) ∧ W.cell? ⟨w.heap.size + 1, 2, none⟩ = some (.slice none 0 0)) ∧ W.frozen? ⟨w.heap.size + 1, 0, none⟩ = false ∧ W.frozen? ⟨w.heap.size + 1, 1, none⟩ = false ∧ W.frozen? ⟨w.heap.size + 1, 2, none⟩ = false := fun W hb => by
        have ht := HT0.out.below hb
        obtain ⟨p0, p1, p2, _⟩ := ht.xs
        obtain ⟨q0, qz⟩ := ht.ys
        exact ⟨⟨p0, p1, p2, (hb.cell (p := ad.add k) (by rw [block_of_add]; omega)).trans hcr0⟩, q0, qz⟩
      have hk3 : ∀ (W : World) (a b e : Value), (W.cell? ⟨w.heap.size, 0, none⟩ = some (.int .i64 (room : Int)) ∧ W.cell? ⟨w.heap.size, 1, none⟩ = some (.slice (some ad) N lc) ∧ W.cell? ⟨w.heap.size, 2, none⟩ = some (.slice gA M gc) ∧ W.cell? (ad.add k) = some (.slice A n c)) → ((((W.setCell ⟨w.heap.size + 1, 0, none⟩ a).setCell ⟨w.heap.size + 1, 1, none⟩ b).setCell ⟨w.heap.size + 1, 2, none⟩ e).cell? ⟨w.heap.size, 0, none⟩ = some (.int .i64 (room : Int)) ∧ (((W.setCell ⟨w.heap.size + 1, 0, none⟩ a).setCell ⟨w.heap.size + 1, 1, none⟩ b).setCell ⟨w.heap.size + 1, 2, none⟩ e).cell? ⟨w.heap.size, 1, none⟩ = some (.slice (some ad) N lc) ∧ (((W.setCell ⟨w.heap.size + 1, 0, none⟩ a).setCell ⟨w.heap.size + 1, 1, none⟩ b).setCell ⟨w.heap.size + 1, 2, none⟩ e).cell? ⟨w.heap.size, 2, none⟩ = some (.slice gA M gc) ∧ (((W.setCell ⟨w.heap.size + 1, 0, none⟩ a).setCell ⟨w.heap.size + 1, 1, none⟩ b).setCell ⟨w.heap.size + 1, 2, none⟩ e).cell? (ad.add k) = some (.slice A n c)) := fun W a b e g => by
        have hc := fun (p : Addr) (hp : p.block ≠ w.heap.size + 1) => set3_other W (w.heap.size + 1) a b e p hp
        exact ⟨(hc _ (by simp)).trans g.1, (hc _ (by simp)).trans g.2.1, (hc _ (by simp)).trans g.2.2.1, (hc _ (by rw [block_of_add]; omega)).trans g.2.2.2⟩
      have HK3 := Lib.hid hk3
      clear hk3
      have hnn : (Q ++ [x]).length = M + 1 := by rw [List.length_append, hM]; rfl
      rw [hn] at hl
      have hand := fun (W : World) (hb : Below W0.heap.size W0 W) => and_any gA gc Q x W w.heap.size ((h.glob.reads).below (HT0.out.bel.trans (hb.mono hwz))) (Nat.le_trans hwz hb.size) (by omega)
      rw [hM] at hand
      obtain ⟨⟨-, -, -, s3⟩, -⟩ := hkeep W0 (Below.refl _ _)
      have hlt : ¬ (n : Int) < (room : Int) := by omega
      have HAND := Lib.hid hand; have HL1 := Lib.hid hnn; have HH := Lib.hid h
      clear hand h hlr hlk hd0 hx0 hcr hcr0 hrx hkeep hx hn hi hkL hnn hM hMM hN HIS hl HK3
      go_wp2_with fail
      go_quiet (fail)
      go_wp2_with fail
      refine (HAND.out _ (below_drews (Below.refl _ _) _)).mono ?_
      rintro e w1 ⟨v, rfl, hown, hb⟩
      obtain ⟨A1, c1, hv, hc1, hr1⟩ := hown.slice
      rw [HL1.out] at hv
      subst hv
      have hT1 := HT0.out.below (W' := w1) ((below_drews (Below.refl _ _) _).trans hb)
      have hrx := RX.of_own_n HL1.out hown
      obtain ⟨p0, p1, p2, pz⟩ := hT1.xs
      obtain ⟨⟨q0, q1, q2⟩, qz0, qz1, qz2⟩ := hT1.ys
      have HT1 := Lib.hid hT1; have HRX := Lib.hid hrx
      clear hown hr1 hb hT1 hrx HAND s3
      go_wp2_with fail
      have hset := (Fr.refl (fun k => k = w.heap.size) w1).setCell (p := ⟨w.heap.size, 2, none⟩) (.inl rfl) (.slice A1 (M + 1) c1)
      have hb1 := HT1.out.b1.set_ 2 (.slice A1 (M + 1) c1)
      have hT2 : Two w _ room (some ad) N lc A1 (M + 1) c1 := ⟨by simpa using hb1, hset.blk HT1.out.b2 (by omega), HT1.out.bel.trans (hset.below HT1.out.bel.size (fun i hi => by omega))⟩
      obtain ⟨f1, f2⟩ := hT2.fin (.int .i64 (room : Int)) (.slice (some ad) N lc) (.slice A1 (M + 1) c1)
      refine bodyPost_ret (v := .tuple #[.agg (DocV room (some ad) N lc A1 (M + 1) c1), .int .i64 0]) (res_cell_slot rfl _ _ (w.heap.size + 1) 28 _ (0, 0) _ _ rfl rfl f1 Try.underlying28 rfl (by kernel_rfl)) rfl ?_
      have hbt := hT2.bel.trans f2
      have hd := HH.out.later hbt
      refine ⟨_, rfl, DocR.of HL1.out ⟨hd.le, hd.rows, ?_⟩ hbt⟩
      have hfr : Fr (fun k => k = w.heap.size ∨ k = w.heap.size + 1) w1 _ := (hset.mono (fun _ _ h => .inl h)).trans ((Fr.refl (fun k => k = w.heap.size + 1) _).set3 (g := w.heap.size + 1) (.inl rfl) (.int .i64 (room : Int)) (.slice (some ad) N lc) (.slice A1 (M + 1) c1)) (fun _ _ h => .inr h)
      exact (HRX.out.fr hfr (fun i hi hl => by simp at hi; omega)).mono (fun k hk _ => .inr (by simp at hk; omega))
  · rw [if_neg hi]
    rw [hN] at hi
    clear hN
    go_enter Try.func33, Try.ntmps33
    go_wp2_with fail
    refine (HIS.out _).mono ?_
    rintro e W0 ⟨rfl, hbi⟩
    rw [decide_eq_false hi]
    have HT0 := Lib.hid (HT.out.below hbi)
    clear hbi HT
    obtain ⟨p0, p1, p2, pz⟩ := HT0.out.xs
    obtain ⟨⟨q0, q1, q2⟩, qz0, qz1, qz2⟩ := HT0.out.ys
    go_wp2_with fail
    obtain ⟨f1, f2⟩ := HT0.out.fin (.int .i64 (room : Int)) (.slice lA N lc) (.slice gA M gc)
    refine bodyPost_ret (v := .tuple #[.agg (DocV room lA N lc gA M gc), .int .i64 5]) (res_cell_slot rfl _ _ (w.heap.size + 1) 28 _ (0, 0) _ _ rfl rfl f1 Try.underlying28 rfl (by kernel_rfl)) rfl ?_
    have hbt := HT0.out.bel.trans f2
    exact ⟨_, rfl, DocR.of hM (h.later hbt) hbt⟩

end
end Go.Proofs.Ytipflplilkecjaa
