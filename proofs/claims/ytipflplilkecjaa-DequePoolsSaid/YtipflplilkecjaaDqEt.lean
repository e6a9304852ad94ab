
/-
  The document's pool: Take.
-/
import Derived.Test.YtipflplilkecjaaDqE
set_option linter.unusedVariables false
set_option linter.unusedSimpArgs false
namespace Go.Proofs.Ytipflplilkecjaa
open Go.RowKit Plain

section
variable (room : Nat) (lA gA : Option Addr) (lc gc : Nat) (L : List (List Int)) (Q : List Int) (w : World) (E : Nat → Prop) (h : DocP w E lA lc gA gc L Q) (N M : Nat) (hN : L.length = N) (hM : Q.length = M) (hN64 : N ≤ 64) (hM6 : M ≤ 1000000) (hr8 : room ≤ 8) (hlr : ∀ (i : Nat) (l : List Int), L[i]? = some l → l.length ≤ room)
include h hN hM hN64 hM6 hr8 hlr
set_option maxRecDepth 100000 in
set_option maxHeartbeats 4000000 in
theorem refTake7 (i : Int) : Calls Try.prog 34 #[.agg (DocV room lA N lc gA M gc), .int .i64 i] w fun e w' => ∃ v, e = .returned (.tuple #[v, .int .i64 (takeP L Q i).2.1, .int .i64 (takeP L Q i).2.2]) ∧ DocR w w' E room N (takeP L Q i).1.1 (takeP L Q i).1.2 v := by
  have hT := Two.new w room lA N lc gA M gc
  have HT := Lib.hid hT
  have his := fun W => is_any room lA gA lc gc W N M i
  have HIS := Lib.hid his
  have hMM := hM
  clear hT his
  unfold takeP
  by_cases hi : 0 ≤ i ∧ i < (L.length : Int)
  · rw [if_pos hi]
    obtain ⟨k, rfl⟩ : ∃ k : Nat, i = (k : Int) := ⟨i.toNat, by omega⟩
    have hkL : k < L.length := by omega
    have hx : L[k]? = some L[k] := List.getElem?_eq_getElem hkL
    have hlk := hlr k _ hx
    generalize L[k] = l at *
    simp only [Int.toNat_natCast, hx, Option.getD_some]
    have hk0 : (0 : Int) ≤ (k : Int) := by omega
    have hk1 : (k : Int) < (N : Int) := by omega
    by_cases hl : l = []
    · subst hl
      simp only [List.getLast?_nil]
      rcases Q with _ | ⟨y, Q'⟩
      · obtain rfl : M = 0 := by rw [← hM]; rfl
        go_enter Try.func34, Try.ntmps34
        go_wp2_with fail
        refine (HIS.out _).mono ?_
        rintro e W0 ⟨rfl, hbi⟩
        rw [decide_eq_true ⟨hk0, hk1⟩]
        have HT0 := Lib.hid (HT.out.below hbi)
        clear hbi HT
        obtain ⟨p0, p1, p2, pz⟩ := HT0.out.xs
        obtain ⟨⟨q0, q1, q2⟩, qz0, qz1, qz2⟩ := HT0.out.ys
        obtain ⟨ad, A, c, e0, hab, hcr, hrx⟩ := h.at_ hx
        subst e0
        obtain ⟨n, hn⟩ : ∃ n, (([] : List Int)).length = n := ⟨_, rfl⟩
        rw [hn] at hcr
        have hcr0 := (HT0.out.bel.cell (p := ad.add k) (by rw [block_of_add]; exact hab)).trans hcr
        have hd0 := ((h.mono (E' := fun k => E k ∧ k < w.heap.size) (fun k e hk => ⟨e, hk⟩)).below HT0.out.bel (Nat.le_refl _)).mono (E' := fun k => (E k ∧ k < w.heap.size) ∨ W0.heap.size ≤ k) (fun k e _ => .inl e)
        have hx0 := ((hrx.mono (E := fun k => E k ∧ k < w.heap.size) (fun k e hk => ⟨e, hk⟩)).below HT0.out.bel (Nat.le_refl _)).mono (E := fun k => (E k ∧ k < w.heap.size) ∨ W0.heap.size ≤ k) (fun k e _ => .inl e)
        have hwz := HT0.out.bel.size
        have hbl1 := HT0.out.b1.lt
        have hbl2 := HT0.out.b2.lt
        have hkeep : ∀ W, Below W0.heap.size W0 W → (W.cell? ⟨w.heap.size, 0, none⟩ = some (.int .i64 (room : Int)) ∧ W.cell? ⟨w.heap.size, 1, none⟩ = some (.slice (some ad) N lc) ∧ W.cell? ⟨w.heap.size, 2, none⟩ = some (.slice gA 0 gc) ∧ W.cell? (ad.add k) = some (.slice A n c)) ∧ (W.cell? ⟨w.heap.size + 1, 0, none⟩ = some (.int .i64 0) ∧ W.cell? ⟨w.heap.size + 1, 1, none⟩ = some (.slice none 0 0) ∧ W.cell? ⟨w.heap.size + 1, 2, none⟩ = some (.slice none 0 0)) ∧ W.frozen? ⟨w.heap.size + 1, 0, none⟩ = false ∧ W.frozen? ⟨w.heap.size + 1, 1, none⟩ = false ∧ W.frozen? ⟨w.heap.size + 1, 2, none⟩ = false := fun W hb => by
          have ht := HT0.out.below hb
          obtain ⟨p0, p1, p2, _⟩ := ht.xs
          obtain ⟨q0, qz⟩ := ht.ys
          exact ⟨⟨p0, p1, p2, (hb.cell (p := ad.add k) (by rw [block_of_add]; omega)).trans hcr0⟩, q0, qz⟩
        have hk3 : ∀ (W : World) (a b e : Value), (W.cell? ⟨w.heap.size, 0, none⟩ = some (.int .i64 (room : Int)) ∧ W.cell? ⟨w.heap.size, 1, none⟩ = some (.slice (some ad) N lc) ∧ W.cell? ⟨w.heap.size, 2, none⟩ = some (.slice gA 0 gc) ∧ W.cell? (ad.add k) = some (.slice A n c)) → ((((W.setCell ⟨w.heap.size + 1, 0, none⟩ a).setCell ⟨w.heap.size + 1, 1, none⟩ b).setCell ⟨w.heap.size + 1, 2, none⟩ e).cell? ⟨w.heap.size, 0, none⟩ = some (.int .i64 (room : Int)) ∧ (((W.setCell ⟨w.heap.size + 1, 0, none⟩ a).setCell ⟨w.heap.size + 1, 1, none⟩ b).setCell ⟨w.heap.size + 1, 2, none⟩ e).cell? ⟨w.heap.size, 1, none⟩ = some (.slice (some ad) N lc) ∧ (((W.setCell ⟨w.heap.size + 1, 0, none⟩ a).setCell ⟨w.heap.size + 1, 1, none⟩ b).setCell ⟨w.heap.size + 1, 2, none⟩ e).cell? ⟨w.heap.size, 2, none⟩ = some (.slice gA 0 gc) ∧ (((W.setCell ⟨w.heap.size + 1, 0, none⟩ a).setCell ⟨w.heap.size + 1, 1, none⟩ b).setCell ⟨w.heap.size + 1, 2, none⟩ e).cell? (ad.add k) = some (.slice A n c)) := fun W a b e g => by
          have hc := fun (p : Addr) (hp : p.block ≠ w.heap.size + 1) => set3_other W (w.heap.size + 1) a b e p hp
          exact ⟨(hc _ (by simp)).trans g.1, (hc _ (by simp)).trans g.2.1, (hc _ (by simp)).trans g.2.2.1, (hc _ (by rw [block_of_add]; omega)).trans g.2.2.2⟩
        have HK3 := Lib.hid hk3
        clear hk3
        obtain rfl : n = 0 := by rw [← hn]; rfl
        obtain ⟨⟨-, -, -, s3⟩, -⟩ := hkeep W0 (Below.refl _ _)
        go_wp2_with fail
        obtain ⟨f1, f2⟩ := HT0.out.fin (.int .i64 (room : Int)) (.slice (some ad) N lc) (.slice gA 0 gc)
        refine bodyPost_ret (v := .tuple #[.agg (DocV room (some ad) N lc gA 0 gc), .int .i64 0, .int .i64 7]) (res_cell_slots rfl _ _ (w.heap.size + 1) 28 _ (0, 0) _ _ _ rfl rfl rfl f1 Try.underlying28 rfl (by kernel_rfl)) rfl ?_
        have hbt := HT0.out.bel.trans f2
        exact ⟨_, rfl, DocR.of hM (h.later hbt) hbt⟩
      · obtain ⟨m, rfl⟩ : ∃ m, M = m + 1 := ⟨Q'.length, by rw [← hM]; rfl⟩
        have hm : Q'.length = m := by simpa using hM
        obtain ⟨gx, hgx, -, hgb, hgc⟩ := h.glob.2 (by simp)
        have hgt := h.glob.tail
        have hgl := h.glob.1
        rw [hM] at hgl
        subst hgx
        have hy := hgc 0 y rfl
        rw [show gx.add 0 = gx by simp [Addr.add]] at hy
        go_enter Try.func34, Try.ntmps34
        go_wp2_with fail
        refine (HIS.out _).mono ?_
        rintro e W0 ⟨rfl, hbi⟩
        rw [decide_eq_true ⟨hk0, hk1⟩]
        have HT0 := Lib.hid (HT.out.below hbi)
        clear hbi HT
        obtain ⟨p0, p1, p2, pz⟩ := HT0.out.xs
        obtain ⟨⟨q0, q1, q2⟩, qz0, qz1, qz2⟩ := HT0.out.ys
        obtain ⟨ad, A, c, e0, hab, hcr, hrx⟩ := h.at_ hx
        subst e0
        obtain ⟨n, hn⟩ : ∃ n, (([] : List Int)).length = n := ⟨_, rfl⟩
        rw [hn] at hcr
        have hcr0 := (HT0.out.bel.cell (p := ad.add k) (by rw [block_of_add]; exact hab)).trans hcr
        have hd0 := ((h.mono (E' := fun k => E k ∧ k < w.heap.size) (fun k e hk => ⟨e, hk⟩)).below HT0.out.bel (Nat.le_refl _)).mono (E' := fun k => (E k ∧ k < w.heap.size) ∨ W0.heap.size ≤ k) (fun k e _ => .inl e)
        have hx0 := ((hrx.mono (E := fun k => E k ∧ k < w.heap.size) (fun k e hk => ⟨e, hk⟩)).below HT0.out.bel (Nat.le_refl _)).mono (E := fun k => (E k ∧ k < w.heap.size) ∨ W0.heap.size ≤ k) (fun k e _ => .inl e)
        have hwz := HT0.out.bel.size
        have hbl1 := HT0.out.b1.lt
        have hbl2 := HT0.out.b2.lt
        have hkeep : ∀ W, Below W0.heap.size W0 W → (W.cell? ⟨w.heap.size, 0, none⟩ = some (.int .i64 (room : Int)) ∧ W.cell? ⟨w.heap.size, 1, none⟩ = some (.slice (some ad) N lc) ∧ W.cell? ⟨w.heap.size, 2, none⟩ = some (.slice (some gx) (m + 1) gc) ∧ W.cell? (ad.add k) = some (.slice A n c)) ∧ (W.cell? ⟨w.heap.size + 1, 0, none⟩ = some (.int .i64 0) ∧ W.cell? ⟨w.heap.size + 1, 1, none⟩ = some (.slice none 0 0) ∧ W.cell? ⟨w.heap.size + 1, 2, none⟩ = some (.slice none 0 0)) ∧ W.frozen? ⟨w.heap.size + 1, 0, none⟩ = false ∧ W.frozen? ⟨w.heap.size + 1, 1, none⟩ = false ∧ W.frozen? ⟨w.heap.size + 1, 2, none⟩ = false := fun W hb => by
          have ht := HT0.out.below hb
          obtain ⟨p0, p1, p2, _⟩ := ht.xs
          obtain ⟨q0, qz⟩ := ht.ys
          exact ⟨⟨p0, p1, p2, (hb.cell (p := ad.add k) (by rw [block_of_add]; omega)).trans hcr0⟩, q0, qz⟩
        have hk3 : ∀ (W : World) (a b e : Value), (W.cell? ⟨w.heap.size, 0, none⟩ = some (.int .i64 (room : Int)) ∧ W.cell? ⟨w.heap.size, 1, none⟩ = some (.slice (some ad) N lc) ∧ W.cell? ⟨w.heap.size, 2, none⟩ = some (.slice (some gx) (m + 1) gc) ∧ W.cell? (ad.add k) = some (.slice A n c)) → ((((W.setCell ⟨w.heap.size + 1, 0, none⟩ a).setCell ⟨w.heap.size + 1, 1, none⟩ b).setCell ⟨w.heap.size + 1, 2, none⟩ e).cell? ⟨w.heap.size, 0, none⟩ = some (.int .i64 (room : Int)) ∧ (((W.setCell ⟨w.heap.size + 1, 0, none⟩ a).setCell ⟨w.heap.size + 1, 1, none⟩ b).setCell ⟨w.heap.size + 1, 2, none⟩ e).cell? ⟨w.heap.size, 1, none⟩ = some (.slice (some ad) N lc) ∧ (((W.setCell ⟨w.heap.size + 1, 0, none⟩ a).setCell ⟨w.heap.size + 1, 1, none⟩ b).setCell ⟨w.heap.size + 1, 2, none⟩ e).cell? ⟨w.heap.size, 2, none⟩ = some (.slice (some gx) (m + 1) gc) ∧ (((W.setCell ⟨w.heap.size + 1, 0, none⟩ a).setCell ⟨w.heap.size + 1, 1, none⟩ b).setCell ⟨w.heap.size + 1, 2, none⟩ e).cell? (ad.add k) = some (.slice A n c)) := fun W a b e g => by
          have hc := fun (p : Addr) (hp : p.block ≠ w.heap.size + 1) => set3_other W (w.heap.size + 1) a b e p hp
          exact ⟨(hc _ (by simp)).trans g.1, (hc _ (by simp)).trans g.2.1, (hc _ (by simp)).trans g.2.2.1, (hc _ (by rw [block_of_add]; omega)).trans g.2.2.2⟩
        have HK3 := Lib.hid hk3
        clear hk3
        obtain rfl : n = 0 := by rw [← hn]; rfl
        obtain ⟨⟨-, -, -, s3⟩, -⟩ := hkeep W0 (Below.refl _ _)
        have hy0 : W0.cell? gx = some (.int .i64 y) := (HT0.out.bel.cell (p := gx) hgb).trans hy
        have hm1 : (1 : Int) ≤ (m : Int) + 1 := by omega
        have HH := Lib.hid h; have HM := Lib.hid hm; have HGT := Lib.hid hgt
        have hgm : m + 1 ≤ gc := hgl
        clear h hlr hlk hd0 hx0 hcr hcr0 hrx hkeep hx hn hi hkL hM hMM hN HIS HK3 hgc hgt hm hy hgl
        by_cases hg1 : gc = 1
        · obtain rfl : m = 0 := by omega
          subst hg1
          have hgt := HGT.out
          rw [if_pos rfl] at hgt
          have HG := Lib.hid hgt
          clear hgt HGT
          go_wp2_with fail
          have hset := (Fr.refl (fun k => k = w.heap.size) W0).setCell (p := ⟨w.heap.size, 2, none⟩) (.inl rfl) (.slice (some gx) 0 0)
          have hb1 := HT0.out.b1.set_ 2 (.slice (some gx) 0 0)
          have hT2 : Two w _ room (some ad) N lc (some gx) 0 0 := ⟨by simpa using hb1, hset.blk HT0.out.b2 (by omega), HT0.out.bel.trans (hset.below HT0.out.bel.size (fun i hi => by omega))⟩
          obtain ⟨f1, f2⟩ := hT2.fin (.int .i64 (room : Int)) (.slice (some ad) N lc) (.slice (some gx) 0 0)
          refine bodyPost_ret (v := .tuple #[.agg (DocV room (some ad) N lc (some gx) 0 0), .int .i64 y, .int .i64 0]) (res_cell_slots rfl _ _ (w.heap.size + 1) 28 _ (0, 0) _ _ _ rfl rfl rfl f1 Try.underlying28 rfl (by kernel_rfl)) rfl ?_
          have hbt := hT2.bel.trans f2
          have hd := HH.out.later hbt
          exact ⟨_, rfl, DocR.of HM.out ⟨hd.le, hd.rows, (HG.out.below hbt (Nat.le_refl _)).mono (fun k h _ => .inl h)⟩ hbt⟩
        · have hgt := HGT.out
          rw [if_neg hg1] at hgt
          have HG := Lib.hid hgt
          clear hgt HGT
          go_wp2_with fail
          have hset := (Fr.refl (fun k => k = w.heap.size) W0).setCell (p := ⟨w.heap.size, 2, none⟩) (.inl rfl) (.slice (some (gx.add 1)) m (gc - 1))
          have hb1 := HT0.out.b1.set_ 2 (.slice (some (gx.add 1)) m (gc - 1))
          have hT2 : Two w _ room (some ad) N lc (some (gx.add 1)) m (gc - 1) := ⟨by simpa using hb1, hset.blk HT0.out.b2 (by omega), HT0.out.bel.trans (hset.below HT0.out.bel.size (fun i hi => by omega))⟩
          obtain ⟨f1, f2⟩ := hT2.fin (.int .i64 (room : Int)) (.slice (some ad) N lc) (.slice (some (gx.add 1)) m (gc - 1))
          refine bodyPost_ret (v := .tuple #[.agg (DocV room (some ad) N lc (some (gx.add 1)) m (gc - 1)), .int .i64 y, .int .i64 0]) (res_cell_slots rfl _ _ (w.heap.size + 1) 28 _ (0, 0) _ _ _ rfl rfl rfl f1 Try.underlying28 rfl (by kernel_rfl)) rfl ?_
          have hbt := hT2.bel.trans f2
          have hd := HH.out.later hbt
          exact ⟨_, rfl, DocR.of HM.out ⟨hd.le, hd.rows, (HG.out.below hbt (Nat.le_refl _)).mono (fun k h _ => .inl h)⟩ hbt⟩
    · obtain ⟨l0, y, rfl⟩ := snoc_of hl
      simp only [List.getLast?_append, List.getLast?_singleton, Option.some_or, List.dropLast_concat]
      go_enter Try.func34, Try.ntmps34
      go_wp2_with fail
      refine (HIS.out _).mono ?_
      rintro e W0 ⟨rfl, hbi⟩
      rw [decide_eq_true ⟨hk0, hk1⟩]
      have HT0 := Lib.hid (HT.out.below hbi)
      clear hbi HT
      obtain ⟨p0, p1, p2, pz⟩ := HT0.out.xs
      obtain ⟨⟨q0, q1, q2⟩, qz0, qz1, qz2⟩ := HT0.out.ys
      obtain ⟨ad, A, c, e0, hab, hcr, hrx⟩ := h.at_ hx
      subst e0
      obtain ⟨n, hn⟩ : ∃ n, (l0 ++ [y]).length = n := ⟨_, rfl⟩
      rw [hn] at hcr
      have hcr0 := (HT0.out.bel.cell (p := ad.add k) (by rw [block_of_add]; exact hab)).trans hcr
      have hd0 := ((h.mono (E' := fun k => E k ∧ k < w.heap.size) (fun k e hk => ⟨e, hk⟩)).below HT0.out.bel (Nat.le_refl _)).mono (E' := fun k => (E k ∧ k < w.heap.size) ∨ W0.heap.size ≤ k) (fun k e _ => .inl e)
      have hx0 := ((hrx.mono (E := fun k => E k ∧ k < w.heap.size) (fun k e hk => ⟨e, hk⟩)).below HT0.out.bel (Nat.le_refl _)).mono (E := fun k => (E k ∧ k < w.heap.size) ∨ W0.heap.size ≤ k) (fun k e _ => .inl e)
      have hwz := HT0.out.bel.size
      have hbl1 := HT0.out.b1.lt
      have hbl2 := HT0.out.b2.lt
      have hkeep : ∀ W, Below W0.heap.size W0 W → (W.cell? ⟨w.heap.size, 0, none⟩ = some (.int .i64 (room : Int)) ∧ W.cell? ⟨w.heap.size, 1, none⟩ = some (.slice (some ad) N lc) ∧ W.cell? ⟨w.heap.size, 2, none⟩ = some (.slice gA M gc) ∧ W.cell? (ad.add k) = some (.slice A n c)) ∧ (W.cell? ⟨w.heap.size + 1, 0, none⟩ = some (.int .i64 0) ∧ W.cell? ⟨w.heap.size + 1, 1, none⟩ = some (.slice none 0 0) ∧ W.cell? ⟨w.heap.size + 1, 2, none⟩ = some (.slice none 0 0)) ∧ W.frozen? ⟨w.heap.size + 1, 0, none⟩ = false ∧ W.frozen? ⟨w.heap.size + 1, 1, none⟩ = false ∧ W.frozen? ⟨w.heap.size + 1, 2, none⟩ = false := fun W hb => by
        have ht := HT0.out.below hb
        obtain ⟨p0, p1, p2, _⟩ := ht.xs
        obtain ⟨q0, qz⟩ := ht.ys
        exact ⟨⟨p0, p1, p2, (hb.cell (p := ad.add k) (by rw [block_of_add]; omega)).trans hcr0⟩, q0, qz⟩
      have hk3 : ∀ (W : World) (a b e : Value), (W.cell? ⟨w.heap.size, 0, none⟩ = some (.int .i64 (room : Int)) ∧ W.cell? ⟨w.heap.size, 1, none⟩ = some (.slice (some ad) N lc) ∧ W.cell? ⟨w.heap.size, 2, none⟩ = some (.slice gA M gc) ∧ W.cell? (ad.add k) = some (.slice A n c)) → ((((W.setCell ⟨w.heap.size + 1, 0, none⟩ a).setCell ⟨w.heap.size + 1, 1, none⟩ b).setCell ⟨w.heap.size + 1, 2, none⟩ e).cell? ⟨w.heap.size, 0, none⟩ = some (.int .i64 (room : Int)) ∧ (((W.setCell ⟨w.heap.size + 1, 0, none⟩ a).setCell ⟨w.heap.size + 1, 1, none⟩ b).setCell ⟨w.heap.size + 1, 2, none⟩ e).cell? ⟨w.heap.size, 1, none⟩ = some (.slice (some ad) N lc) ∧ (((W.setCell ⟨w.heap.size + 1, 0, none⟩ a).setCell ⟨w.heap.size + 1, 1, none⟩ b).setCell ⟨w.heap.size + 1, 2, none⟩ e).cell? ⟨w.heap.size, 2, none⟩ = some (.slice gA M gc) ∧ (((W.setCell ⟨w.heap.size + 1, 0, none⟩ a).setCell ⟨w.heap.size + 1, 1, none⟩ b).setCell ⟨w.heap.size + 1, 2, none⟩ e).cell? (ad.add k) = some (.slice A n c)) := fun W a b e g => by
        have hc := fun (p : Addr) (hp : p.block ≠ w.heap.size + 1) => set3_other W (w.heap.size + 1) a b e p hp
        exact ⟨(hc _ (by simp)).trans g.1, (hc _ (by simp)).trans g.2.1, (hc _ (by simp)).trans g.2.2.1, (hc _ (by rw [block_of_add]; omega)).trans g.2.2.2⟩
      have HK3 := Lib.hid hk3
      clear hk3
      obtain ⟨p, rfl⟩ : ∃ p, n = p + 1 := ⟨l0.length, by rw [← hn]; simp⟩
      have hpl : l0.length = p := by simpa using hn
      obtain ⟨ax, hax, haE, hxb, hxc⟩ := hx0.2 (by rw [hn]; omega)
      subst hax
      have hcy := hxc p y (by rw [← hpl]; simp)
      have haw : ax.block < w.heap.size := by rcases haE with e | e; exact e.2; omega
      have hkeep2 : ∀ W, Below W0.heap.size W0 W → (W.cell? ⟨w.heap.size, 0, none⟩ = some (.int .i64 (room : Int)) ∧ W.cell? ⟨w.heap.size, 1, none⟩ = some (.slice (some ad) N lc) ∧ W.cell? ⟨w.heap.size, 2, none⟩ = some (.slice gA M gc) ∧ W.cell? (ax.add p) = some (.int .i64 y)) ∧ (W.cell? ⟨w.heap.size + 1, 0, none⟩ = some (.int .i64 0) ∧ W.cell? ⟨w.heap.size + 1, 1, none⟩ = some (.slice none 0 0) ∧ W.cell? ⟨w.heap.size + 1, 2, none⟩ = some (.slice none 0 0)) ∧ W.frozen? ⟨w.heap.size + 1, 0, none⟩ = false ∧ W.frozen? ⟨w.heap.size + 1, 1, none⟩ = false ∧ W.frozen? ⟨w.heap.size + 1, 2, none⟩ = false := fun W hb => by
        obtain ⟨⟨g0, g1, g2, _⟩, g5⟩ := hkeep W hb
        exact ⟨⟨g0, g1, g2, (hb.cell (p := (ax.add p)) (by rw [block_of_add]; omega)).trans hcy⟩, g5⟩
      have hk32 : ∀ (W : World) (a b e : Value), (W.cell? ⟨w.heap.size, 0, none⟩ = some (.int .i64 (room : Int)) ∧ W.cell? ⟨w.heap.size, 1, none⟩ = some (.slice (some ad) N lc) ∧ W.cell? ⟨w.heap.size, 2, none⟩ = some (.slice gA M gc) ∧ W.cell? (ax.add p) = some (.int .i64 y)) → ((((W.setCell ⟨w.heap.size + 1, 0, none⟩ a).setCell ⟨w.heap.size + 1, 1, none⟩ b).setCell ⟨w.heap.size + 1, 2, none⟩ e).cell? ⟨w.heap.size, 0, none⟩ = some (.int .i64 (room : Int)) ∧ (((W.setCell ⟨w.heap.size + 1, 0, none⟩ a).setCell ⟨w.heap.size + 1, 1, none⟩ b).setCell ⟨w.heap.size + 1, 2, none⟩ e).cell? ⟨w.heap.size, 1, none⟩ = some (.slice (some ad) N lc) ∧ (((W.setCell ⟨w.heap.size + 1, 0, none⟩ a).setCell ⟨w.heap.size + 1, 1, none⟩ b).setCell ⟨w.heap.size + 1, 2, none⟩ e).cell? ⟨w.heap.size, 2, none⟩ = some (.slice gA M gc) ∧ (((W.setCell ⟨w.heap.size + 1, 0, none⟩ a).setCell ⟨w.heap.size + 1, 1, none⟩ b).setCell ⟨w.heap.size + 1, 2, none⟩ e).cell? (ax.add p) = some (.int .i64 y)) := fun W a b e g => by
        have hc := fun (p : Addr) (hp : p.block ≠ w.heap.size + 1) => set3_other W (w.heap.size + 1) a b e p hp
        exact ⟨(hc _ (by simp)).trans g.1, (hc _ (by simp)).trans g.2.1, (hc _ (by simp)).trans g.2.2.1, (hc (ax.add p) (by rw [block_of_add]; omega)).trans g.2.2.2⟩
      have HK32 := Lib.hid hk32
      clear hk32
      have hnn : l0.length = p := hpl
      have hwith : ∀ (w1 : World) (A1 : Option Addr) (c1 : Nat), RX w1 (fun k => (E k ∧ k < w.heap.size) ∨ W0.heap.size ≤ k) A1 c1 l0 ∧ Below W0.heap.size W0 w1 → ∀ W, Below w1.heap.size w1 W → Calls Try.prog 47 #[.agg (DocV room (some ad) N lc gA M gc), .int .i64 (k : Int), .slice A1 p c1] W fun e w2 =>
          ∃ lA' lc', e = .returned (.agg (DocV room lA' N lc' gA M gc)) ∧ Hid (DocP w2 (fun k => (E k ∧ k < w.heap.size) ∨ W0.heap.size ≤ k) lA' lc' gA gc (L.set k l0) Q ∧ Below W0.heap.size W0 w2) ∧ (w2.cell? ⟨w.heap.size, 0, none⟩ = some (.int .i64 (room : Int)) ∧ w2.cell? ⟨w.heap.size, 1, none⟩ = some (.slice (some ad) N lc) ∧ w2.cell? ⟨w.heap.size, 2, none⟩ = some (.slice gA M gc) ∧ w2.cell? (ax.add p) = some (.int .i64 y)) ∧ (w2.cell? ⟨w.heap.size + 1, 0, none⟩ = some (.int .i64 0) ∧ w2.cell? ⟨w.heap.size + 1, 1, none⟩ = some (.slice none 0 0) ∧ w2.cell? ⟨w.heap.size + 1, 2, none⟩ = some (.slice none 0 0)) ∧ w2.frozen? ⟨w.heap.size + 1, 0, none⟩ = false ∧ w2.frozen? ⟨w.heap.size + 1, 1, none⟩ = false ∧ w2.frozen? ⟨w.heap.size + 1, 2, none⟩ = false := fun w1 A1 c1 h1 W hW => by
        have hbW : Below W0.heap.size W0 W := h1.2.trans (hW.mono h1.2.size)
        have hrW : RX W (fun k => (E k ∧ k < w.heap.size) ∨ W0.heap.size ≤ k) A1 c1 l0 := h1.1.below hW (Nat.le_refl _)
        refine (with_any room (some ad) gA lc gc L Q W k l0 A1 c1 p (fun k => (E k ∧ k < w.heap.size) ∨ W0.heap.size ≤ k) (hd0.below hbW (Nat.le_refl _)) hkL hrW hnn N M hN hN64).mono ?_
        rintro e w2 ⟨lA', lc', rfl, q1, q2⟩
        have hb2 := hbW.trans (q2.mono hbW.size)
        obtain ⟨g1, g2, g3⟩ := hkeep2 w2 hb2
        have hWz := hbW.size
        exact ⟨lA', lc', rfl, Lib.hid ⟨q1.mono (fun k h _ => by rcases h with h | h; exact h; exact .inr (by omega)), hb2⟩, g1, g2, g3⟩
      have hr1 : RX W0 (fun k => (E k ∧ k < w.heap.size) ∨ W0.heap.size ≤ k) (some ax) c l0 ∧ Below W0.heap.size W0 W0 := ⟨⟨by have := hx0.1; rw [hn] at this; omega, fun _ => ⟨ax, rfl, haE, hxb, fun j x hj => hxc j x (by rw [List.getElem?_append_left (List.getElem?_eq_some_iff.1 hj).1]; exact hj)⟩⟩, Below.refl _ _⟩
      have hpc : p ≤ c := by have := hx0.1; rw [hn] at this; omega
      have hpc2 : (p : Int) ≤ (c : Int) := by omega
      have hp0 : (0 : Int) ≤ (p : Int) := by omega
      have hpp : (p : Int) < (p : Int) + 1 := by omega
      have hgt0 : (p : Int) + 1 > 0 := by omega
      have hw1 : IntKind.i64.wrap ((p : Int) + 1 - 1) = (p : Int) := by rw [IntWalk.i64_in _ (by omega)]; omega
      have hw2 : IntKind.i64.wrap (p : Int) = (p : Int) := IntWalk.i64_in _ (by omega)
      obtain ⟨⟨-, -, -, s3⟩, -⟩ := hkeep2 W0 (Below.refl _ _)
      have HWITH := Lib.hid hwith; have HM := Lib.hid hM; have HR1 := Lib.hid hr1
      clear hwith h hlr hlk hd0 hx0 hcr hrx hkeep hkeep2 hx hn hi hkL hM hMM hN HIS HK3 hr1 hcy hxb hxc haE hpl hnn
      go_wp2_with fail
      go_region_held3 (fun w' => w'.cell? ⟨w.heap.size, 0, none⟩ = some (.int .i64 (room : Int)) ∧ w'.cell? ⟨w.heap.size, 1, none⟩ = some (.slice (some ad) N lc) ∧ w'.cell? ⟨w.heap.size, 2, none⟩ = some (.slice gA M gc) ∧ w'.cell? (ax.add p) = some (.int .i64 y))
        (first | with_reducible exact ⟨p0, p1, p2, s3⟩ | with_reducible exact G2 | with_reducible exact HK32.out _ _ _ _ G2 | go_keep)
        (first
          | (go_simp; with_reducible refine (HWITH.out W0 _ _ HR1.out _ (by first | with_reducible exact Below.refl _ _ | exact (Below.refl _ _).drew | exact below_drews (Below.refl _ _) _ | exact (below_drews (Below.refl _ _) _).drew | exact below_drews ((Below.refl _ _).drew) _)).mono ?_
             rintro e w2 ⟨lA2, lc2, rfl, HR2, G2, ⟨v0, v1, v2⟩, vz0, vz1, vz2⟩)
          | fail)
      all_goals
        go_wp2_with fail
        obtain ⟨hd2, hb2⟩ := HR2.out
        have hT2 := HT0.out.below hb2
        obtain ⟨f1, f2⟩ := hT2.fin (.int .i64 (room : Int)) (.slice lA2 N lc2) (.slice gA M gc)
        refine bodyPost_ret (v := .tuple #[.agg (DocV room lA2 N lc2 gA M gc), .int .i64 y, .int .i64 0]) (res_cell_slots rfl _ _ (w.heap.size + 1) 28 _ (0, 0) _ _ _ rfl rfl rfl f1 Try.underlying28 rfl (by kernel_rfl)) rfl ?_
        exact ⟨_, rfl, DocR.of HM.out (fin_doc hd2 hbl2 hwz) (hT2.bel.trans f2)⟩
  · rw [if_neg hi]
    rw [hN] at hi
    clear hN
    go_enter Try.func34, Try.ntmps34
    go_wp2_with fail
    refine (HIS.out _).mono ?_
    rintro e W0 ⟨rfl, hbi⟩
    rw [decide_eq_false hi]
    have HT0 := Lib.hid (HT.out.below hbi)
    clear hbi HT
    obtain ⟨p0, p1, p2, pz⟩ := HT0.out.xs
    obtain ⟨⟨q0, q1, q2⟩, qz0, qz1, qz2⟩ := HT0.out.ys
    go_wp2_with fail
    obtain ⟨f1, f2⟩ := HT0.out.fin (.int .i64 (room : Int)) (.slice lA N lc) (.slice gA M gc)
    refine bodyPost_ret (v := .tuple #[.agg (DocV room lA N lc gA M gc), .int .i64 0, .int .i64 5]) (res_cell_slots rfl _ _ (w.heap.size + 1) 28 _ (0, 0) _ _ _ rfl rfl rfl f1 Try.underlying28 rfl (by kernel_rfl)) rfl ?_
    have hbt := HT0.out.bel.trans f2
    exact ⟨_, rfl, DocR.of hM (h.later hbt) hbt⟩

end
end Go.Proofs.Ytipflplilkecjaa
