
/-
  The document's pool: Steal.
-/
import Derived.Test.YtipflplilkecjaaDqE
set_option linter.unusedVariables false
set_option linter.unusedSimpArgs false
namespace Go.Proofs.Ytipflplilkecjaa
open Go.RowKit Plain

section
variable (room : Nat) (lA gA : Option Addr) (lc gc : Nat) (L : List (List Int)) (Q : List Int) (w : World) (E : Nat → Prop) (h : DocP w E lA lc gA gc L Q) (N M : Nat) (hN : L.length = N) (hM : Q.length = M) (hN64 : N ≤ 64) (hM6 : M ≤ 1000000) (hr8 : room ≤ 8) (hlr : ∀ (i : Nat) (l : List Int), L[i]? = some l → l.length ≤ room)
include h hN hM hN64 hM6 hr8 hlr
set_option maxRecDepth 100000 in
set_option maxHeartbeats 4000000 in
theorem refSteal7 (i j : Int) : Calls Try.prog 39 #[.agg (DocV room lA N lc gA M gc), .int .i64 i, .int .i64 j] w fun e w' => ∃ v, e = .returned (.tuple #[v, .int .i64 (stealP L Q i j).2.1, .int .i64 (stealP L Q i j).2.2]) ∧ DocR w w' E room N (stealP L Q i j).1.1 (stealP L Q i j).1.2 v := by
  have hused := hM6
  have hT := Two.new w room lA N lc gA M gc
  have HT := Lib.hid hT
  have his := fun W => is_any room lA gA lc gc W N M j
  have HIS := Lib.hid his
  have his1 := fun W => is_any room lA gA lc gc W N M i
  have HIS1 := Lib.hid his1
  have hMM := hM
  clear hT his his1
  unfold stealP
  by_cases hi : 0 ≤ i ∧ i < (L.length : Int)
  · by_cases hj : 0 ≤ j ∧ j < (L.length : Int)
    · rw [if_pos ⟨hi, hj⟩]
      have hiN : 0 ≤ i ∧ i < (N : Int) := by rw [← hN]; exact hi
      by_cases hij : i = j
      · rw [if_pos hij]
        subst hij
        clear hi hj
        go_enter Try.func39, Try.ntmps39
        go_wp2_with fail
        refine (HIS1.out _).mono ?_
        rintro e W00 ⟨rfl, hbi⟩
        rw [decide_eq_true hiN]
        have HT00 := Lib.hid (HT.out.below hbi)
        clear hbi HT
        obtain ⟨p0, p1, p2, pz⟩ := HT00.out.xs
        go_wp2_with fail
        refine (HIS.out _).mono ?_
        rintro e W0 ⟨rfl, hbi⟩
        rw [decide_eq_true hiN]
        have HT0 := Lib.hid (HT00.out.below hbi)
        clear hbi HT00 p0 p1 p2 pz
        obtain ⟨p0, p1, p2, pz⟩ := HT0.out.xs
        obtain ⟨⟨q0, q1, q2⟩, qz0, qz1, qz2⟩ := HT0.out.ys
        clear hiN
        go_wp2_with fail
        obtain ⟨f1, f2⟩ := HT0.out.fin (.int .i64 (room : Int)) (.slice lA N lc) (.slice gA M gc)
        refine bodyPost_ret (v := .tuple #[.agg (DocV room lA N lc gA M gc), .int .i64 0, .int .i64 1]) (res_cell_slots rfl _ _ (w.heap.size + 1) 28 _ (0, 0) _ _ _ rfl rfl rfl f1 Try.underlying28 rfl (by kernel_rfl)) rfl ?_
        have hbt := HT0.out.bel.trans f2
        exact ⟨_, rfl, DocR.of hM (h.later hbt) hbt⟩
      · rw [if_neg hij]
        obtain ⟨k, rfl⟩ : ∃ k : Nat, j = (k : Int) := ⟨j.toNat, by omega⟩
        have hkL : k < L.length := by omega
        have hx : L[k]? = some L[k] := List.getElem?_eq_getElem hkL
        have hlk := hlr k _ hx
        generalize L[k] = l at *
        simp only [Int.toNat_natCast, hx, Option.getD_some]
        have hk0 : (0 : Int) ≤ (k : Int) := by omega
        have hk1 : (k : Int) < (N : Int) := by omega
        rcases l with _ | ⟨y, l0⟩
        · clear hi hj
          go_enter Try.func39, Try.ntmps39
          go_wp2_with fail
          refine (HIS1.out _).mono ?_
          rintro e W00 ⟨rfl, hbi⟩
          rw [decide_eq_true hiN]
          have HT00 := Lib.hid (HT.out.below hbi)
          clear hbi HT
          obtain ⟨p0, p1, p2, pz⟩ := HT00.out.xs
          go_wp2_with fail
          refine (HIS.out _).mono ?_
          rintro e W0 ⟨rfl, hbi⟩
          rw [decide_eq_true ⟨hk0, hk1⟩]
          have HT0 := Lib.hid (HT00.out.below hbi)
          clear hbi HT00 p0 p1 p2 pz
          obtain ⟨p0, p1, p2, pz⟩ := HT0.out.xs
          obtain ⟨⟨q0, q1, q2⟩, qz0, qz1, qz2⟩ := HT0.out.ys
          obtain ⟨ad, A, c, e0, hab, hcr, hrx⟩ := h.at_ hx
          subst e0
          obtain ⟨n, hn⟩ : ∃ n, (([] : List Int)).length = n := ⟨_, rfl⟩
          rw [hn] at hcr
          have hcr0 := (HT0.out.bel.cell (p := ad.add k) (by rw [block_of_add]; exact hab)).trans hcr
          have hd0 := ((h.mono (E' := fun k => E k ∧ k < w.heap.size) (fun k e hk => ⟨e, hk⟩)).below HT0.out.bel (Nat.le_refl _)).mono (E' := fun k => (E k ∧ k < w.heap.size) ∨ W0.heap.size ≤ k) (fun k e _ => .inl e)
          have hx0 := ((hrx.mono (E := fun k => E k ∧ k < w.heap.size) (fun k e hk => ⟨e, hk⟩)).below HT0.out.bel (Nat.le_refl _)).mono (E := fun k => (E k ∧ k < w.heap.size) ∨ W0.heap.size ≤ k) (fun k e _ => .inl e)
          have hwz := HT0.out.bel.size
          have hbl1 := HT0.out.b1.lt
          have hbl2 := HT0.out.b2.lt
          have hkeep : ∀ W, Below W0.heap.size W0 W → (W.cell? ⟨w.heap.size, 0, none⟩ = some (.int .i64 (room : Int)) ∧ W.cell? ⟨w.heap.size, 1, none⟩ = some (.slice (some ad) N lc) ∧ W.cell? ⟨w.heap.size, 2, none⟩ = some (.slice gA M gc) ∧ W.cell? (ad.add k) = some (.slice A n c)) ∧ (W.cell? ⟨w.heap.size + 1, 0, none⟩ = some (.int .i64 0) ∧ W.cell? ⟨w.heap.size + 1, 1, none⟩ = some (.slice none 0 0) ∧ W.cell? ⟨w.heap.size + 1, 2, none⟩ = some (.slice none 0 0)) ∧ W.frozen? ⟨w.heap.size + 1, 0, none⟩ = false ∧ W.frozen? ⟨w.heap.size + 1, 1, none⟩ = false ∧ W.frozen? ⟨w.heap.size + 1, 2, none⟩ = false := fun W hb => by
            have ht := HT0.out.below hb
            obtain ⟨p0, p1, p2, _⟩ := ht.xs
            obtain ⟨q0, qz⟩ := ht.ys
            exact ⟨⟨p0, p1, p2, (hb.cell (p := ad.add k) (by rw [block_of_add]; omega)).trans hcr0⟩, q0, qz⟩
          have hk3 : ∀ (W : World) (a b e : Value), (W.cell? ⟨w.heap.size, 0, none⟩ = some (.int .i64 (room : Int)) ∧ W.cell? ⟨w.heap.size, 1, none⟩ = some (.slice (some ad) N lc) ∧ W.cell? ⟨w.heap.size, 2, none⟩ = some (.slice gA M gc) ∧ W.cell? (ad.add k) = some (.slice A n c)) → ((((W.setCell ⟨w.heap.size + 1, 0, none⟩ a).setCell ⟨w.heap.size + 1, 1, none⟩ b).setCell ⟨w.heap.size + 1, 2, none⟩ e).cell? ⟨w.heap.size, 0, none⟩ = some (.int .i64 (room : Int)) ∧ (((W.setCell ⟨w.heap.size + 1, 0, none⟩ a).setCell ⟨w.heap.size + 1, 1, none⟩ b).setCell ⟨w.heap.size + 1, 2, none⟩ e).cell? ⟨w.heap.size, 1, none⟩ = some (.slice (some ad) N lc) ∧ (((W.setCell ⟨w.heap.size + 1, 0, none⟩ a).setCell ⟨w.heap.size + 1, 1, none⟩ b).setCell ⟨w.heap.size + 1, 2, none⟩ e).cell? ⟨w.heap.size, 2, none⟩ = some (.slice gA M gc) ∧ (((W.setCell ⟨w.heap.size + 1, 0, none⟩ a).setCell ⟨w.heap.size + 1, 1, none⟩ b).setCell ⟨w.heap.size + 1, 2, none⟩ e).cell? (ad.add k) = some (.slice A n c)) := fun W a b e g => by
            have hc := fun (p : Addr) (hp : p.block ≠ w.heap.size + 1) => set3_other W (w.heap.size + 1) a b e p hp
            exact ⟨(hc _ (by simp)).trans g.1, (hc _ (by simp)).trans g.2.1, (hc _ (by simp)).trans g.2.2.1, (hc _ (by rw [block_of_add]; omega)).trans g.2.2.2⟩
          have HK3 := Lib.hid hk3
          clear hk3
          obtain rfl : n = 0 := by rw [← hn]; rfl
          obtain ⟨⟨-, -, -, s3⟩, -⟩ := hkeep W0 (Below.refl _ _)
          clear hiN
          go_wp2_with fail
          obtain ⟨f1, f2⟩ := HT0.out.fin (.int .i64 (room : Int)) (.slice (some ad) N lc) (.slice gA M gc)
          refine bodyPost_ret (v := .tuple #[.agg (DocV room (some ad) N lc gA M gc), .int .i64 0, .int .i64 7]) (res_cell_slots rfl _ _ (w.heap.size + 1) 28 _ (0, 0) _ _ _ rfl rfl rfl f1 Try.underlying28 rfl (by kernel_rfl)) rfl ?_
          have hbt := HT0.out.bel.trans f2
          exact ⟨_, rfl, DocR.of hM (h.later hbt) hbt⟩
        · clear hi hj
          go_enter Try.func39, Try.ntmps39
          go_wp2_with fail
          refine (HIS1.out _).mono ?_
          rintro e W00 ⟨rfl, hbi⟩
          rw [decide_eq_true hiN]
          have HT00 := Lib.hid (HT.out.below hbi)
          clear hbi HT
          obtain ⟨p0, p1, p2, pz⟩ := HT00.out.xs
          go_wp2_with fail
          refine (HIS.out _).mono ?_
          rintro e W0 ⟨rfl, hbi⟩
          rw [decide_eq_true ⟨hk0, hk1⟩]
          have HT0 := Lib.hid (HT00.out.below hbi)
          clear hbi HT00 p0 p1 p2 pz
          obtain ⟨p0, p1, p2, pz⟩ := HT0.out.xs
          obtain ⟨⟨q0, q1, q2⟩, qz0, qz1, qz2⟩ := HT0.out.ys
          obtain ⟨ad, A, c, e0, hab, hcr, hrx⟩ := h.at_ hx
          subst e0
          obtain ⟨n, hn⟩ : ∃ n, (y :: l0).length = n := ⟨_, rfl⟩
          rw [hn] at hcr
          have hcr0 := (HT0.out.bel.cell (p := ad.add k) (by rw [block_of_add]; exact hab)).trans hcr
          have hd0 := ((h.mono (E' := fun k => E k ∧ k < w.heap.size) (fun k e hk => ⟨e, hk⟩)).below HT0.out.bel (Nat.le_refl _)).mono (E' := fun k => (E k ∧ k < w.heap.size) ∨ W0.heap.size ≤ k) (fun k e _ => .inl e)
          have hx0 := ((hrx.mono (E := fun k => E k ∧ k < w.heap.size) (fun k e hk => ⟨e, hk⟩)).below HT0.out.bel (Nat.le_refl _)).mono (E := fun k => (E k ∧ k < w.heap.size) ∨ W0.heap.size ≤ k) (fun k e _ => .inl e)
          have hwz := HT0.out.bel.size
          have hbl1 := HT0.out.b1.lt
          have hbl2 := HT0.out.b2.lt
          have hkeep : ∀ W, Below W0.heap.size W0 W → (W.cell? ⟨w.heap.size, 0, none⟩ = some (.int .i64 (room : Int)) ∧ W.cell? ⟨w.heap.size, 1, none⟩ = some (.slice (some ad) N lc) ∧ W.cell? ⟨w.heap.size, 2, none⟩ = some (.slice gA M gc) ∧ W.cell? (ad.add k) = some (.slice A n c)) ∧ (W.cell? ⟨w.heap.size + 1, 0, none⟩ = some (.int .i64 0) ∧ W.cell? ⟨w.heap.size + 1, 1, none⟩ = some (.slice none 0 0) ∧ W.cell? ⟨w.heap.size + 1, 2, none⟩ = some (.slice none 0 0)) ∧ W.frozen? ⟨w.heap.size + 1, 0, none⟩ = false ∧ W.frozen? ⟨w.heap.size + 1, 1, none⟩ = false ∧ W.frozen? ⟨w.heap.size + 1, 2, none⟩ = false := fun W hb => by
            have ht := HT0.out.below hb
            obtain ⟨p0, p1, p2, _⟩ := ht.xs
            obtain ⟨q0, qz⟩ := ht.ys
            exact ⟨⟨p0, p1, p2, (hb.cell (p := ad.add k) (by rw [block_of_add]; omega)).trans hcr0⟩, q0, qz⟩
          have hk3 : ∀ (W : World) (a b e : Value), (W.cell? ⟨w.heap.size, 0, none⟩ = some (.int .i64 (room : Int)) ∧ W.cell? ⟨w.heap.size, 1, none⟩ = some (.slice (some ad) N lc) ∧ W.cell? ⟨w.heap.size, 2, none⟩ = some (.slice gA M gc) ∧ W.cell? (ad.add k) = some (.slice A n c)) → ((((W.setCell ⟨w.heap.size + 1, 0, none⟩ a).setCell ⟨w.heap.size + 1, 1, none⟩ b).setCell ⟨w.heap.size + 1, 2, none⟩ e).cell? ⟨w.heap.size, 0, none⟩ = some (.int .i64 (room : Int)) ∧ (((W.setCell ⟨w.heap.size + 1, 0, none⟩ a).setCell ⟨w.heap.size + 1, 1, none⟩ b).setCell ⟨w.heap.size + 1, 2, none⟩ e).cell? ⟨w.heap.size, 1, none⟩ = some (.slice (some ad) N lc) ∧ (((W.setCell ⟨w.heap.size + 1, 0, none⟩ a).setCell ⟨w.heap.size + 1, 1, none⟩ b).setCell ⟨w.heap.size + 1, 2, none⟩ e).cell? ⟨w.heap.size, 2, none⟩ = some (.slice gA M gc) ∧ (((W.setCell ⟨w.heap.size + 1, 0, none⟩ a).setCell ⟨w.heap.size + 1, 1, none⟩ b).setCell ⟨w.heap.size + 1, 2, none⟩ e).cell? (ad.add k) = some (.slice A n c)) := fun W a b e g => by
            have hc := fun (p : Addr) (hp : p.block ≠ w.heap.size + 1) => set3_other W (w.heap.size + 1) a b e p hp
            exact ⟨(hc _ (by simp)).trans g.1, (hc _ (by simp)).trans g.2.1, (hc _ (by simp)).trans g.2.2.1, (hc _ (by rw [block_of_add]; omega)).trans g.2.2.2⟩
          have HK3 := Lib.hid hk3
          clear hk3
          obtain ⟨p, rfl⟩ : ∃ p, n = p + 1 := ⟨l0.length, by rw [← hn]; rfl⟩
          have hpl : l0.length = p := by simpa using hn
          obtain ⟨ax, hax, haE, hxb, hxc⟩ := hx0.2 (by rw [hn]; omega)
          subst hax
          have hcy := hxc 0 y rfl
          rw [show ax.add 0 = ax by simp [Addr.add]] at hcy
          have haw : ax.block < w.heap.size := by rcases haE with e | e; exact e.2; omega
          have hxt := hx0.tail
          have hxl := hx0.1
          rw [hn] at hxl
          have hkeep2 : ∀ W, Below W0.heap.size W0 W → (W.cell? ⟨w.heap.size, 0, none⟩ = some (.int .i64 (room : Int)) ∧ W.cell? ⟨w.heap.size, 1, none⟩ = some (.slice (some ad) N lc) ∧ W.cell? ⟨w.heap.size, 2, none⟩ = some (.slice gA M gc) ∧ W.cell? ax = some (.int .i64 y)) ∧ (W.cell? ⟨w.heap.size + 1, 0, none⟩ = some (.int .i64 0) ∧ W.cell? ⟨w.heap.size + 1, 1, none⟩ = some (.slice none 0 0) ∧ W.cell? ⟨w.heap.size + 1, 2, none⟩ = some (.slice none 0 0)) ∧ W.frozen? ⟨w.heap.size + 1, 0, none⟩ = false ∧ W.frozen? ⟨w.heap.size + 1, 1, none⟩ = false ∧ W.frozen? ⟨w.heap.size + 1, 2, none⟩ = false := fun W hb => by
            obtain ⟨⟨g0, g1, g2, _⟩, g5⟩ := hkeep W hb
            exact ⟨⟨g0, g1, g2, (hb.cell (p := ax) (by skip; omega)).trans hcy⟩, g5⟩
          have hk32 : ∀ (W : World) (a b e : Value), (W.cell? ⟨w.heap.size, 0, none⟩ = some (.int .i64 (room : Int)) ∧ W.cell? ⟨w.heap.size, 1, none⟩ = some (.slice (some ad) N lc) ∧ W.cell? ⟨w.heap.size, 2, none⟩ = some (.slice gA M gc) ∧ W.cell? ax = some (.int .i64 y)) → ((((W.setCell ⟨w.heap.size + 1, 0, none⟩ a).setCell ⟨w.heap.size + 1, 1, none⟩ b).setCell ⟨w.heap.size + 1, 2, none⟩ e).cell? ⟨w.heap.size, 0, none⟩ = some (.int .i64 (room : Int)) ∧ (((W.setCell ⟨w.heap.size + 1, 0, none⟩ a).setCell ⟨w.heap.size + 1, 1, none⟩ b).setCell ⟨w.heap.size + 1, 2, none⟩ e).cell? ⟨w.heap.size, 1, none⟩ = some (.slice (some ad) N lc) ∧ (((W.setCell ⟨w.heap.size + 1, 0, none⟩ a).setCell ⟨w.heap.size + 1, 1, none⟩ b).setCell ⟨w.heap.size + 1, 2, none⟩ e).cell? ⟨w.heap.size, 2, none⟩ = some (.slice gA M gc) ∧ (((W.setCell ⟨w.heap.size + 1, 0, none⟩ a).setCell ⟨w.heap.size + 1, 1, none⟩ b).setCell ⟨w.heap.size + 1, 2, none⟩ e).cell? ax = some (.int .i64 y)) := fun W a b e g => by
            have hc := fun (p : Addr) (hp : p.block ≠ w.heap.size + 1) => set3_other W (w.heap.size + 1) a b e p hp
            exact ⟨(hc _ (by simp)).trans g.1, (hc _ (by simp)).trans g.2.1, (hc _ (by simp)).trans g.2.2.1, (hc ax (by skip; omega)).trans g.2.2.2⟩
          have HK32 := Lib.hid hk32
          clear hk32
          have hnn : l0.length = p := hpl
          have hwith : ∀ (w1 : World) (A1 : Option Addr) (c1 : Nat), RX w1 (fun k => (E k ∧ k < w.heap.size) ∨ W0.heap.size ≤ k) A1 c1 l0 ∧ Below W0.heap.size W0 w1 → ∀ W, Below w1.heap.size w1 W → Calls Try.prog 47 #[.agg (DocV room (some ad) N lc gA M gc), .int .i64 (k : Int), .slice A1 p c1] W fun e w2 =>
              ∃ lA' lc', e = .returned (.agg (DocV room lA' N lc' gA M gc)) ∧ Hid (DocP w2 (fun k => (E k ∧ k < w.heap.size) ∨ W0.heap.size ≤ k) lA' lc' gA gc (L.set k l0) Q ∧ Below W0.heap.size W0 w2) ∧ (w2.cell? ⟨w.heap.size, 0, none⟩ = some (.int .i64 (room : Int)) ∧ w2.cell? ⟨w.heap.size, 1, none⟩ = some (.slice (some ad) N lc) ∧ w2.cell? ⟨w.heap.size, 2, none⟩ = some (.slice gA M gc) ∧ w2.cell? ax = some (.int .i64 y)) ∧ (w2.cell? ⟨w.heap.size + 1, 0, none⟩ = some (.int .i64 0) ∧ w2.cell? ⟨w.heap.size + 1, 1, none⟩ = some (.slice none 0 0) ∧ w2.cell? ⟨w.heap.size + 1, 2, none⟩ = some (.slice none 0 0)) ∧ w2.frozen? ⟨w.heap.size + 1, 0, none⟩ = false ∧ w2.frozen? ⟨w.heap.size + 1, 1, none⟩ = false ∧ w2.frozen? ⟨w.heap.size + 1, 2, none⟩ = false := fun w1 A1 c1 h1 W hW => by
            have hbW : Below W0.heap.size W0 W := h1.2.trans (hW.mono h1.2.size)
            have hrW : RX W (fun k => (E k ∧ k < w.heap.size) ∨ W0.heap.size ≤ k) A1 c1 l0 := h1.1.below hW (Nat.le_refl _)
            refine (with_any room (some ad) gA lc gc L Q W k l0 A1 c1 p (fun k => (E k ∧ k < w.heap.size) ∨ W0.heap.size ≤ k) (hd0.below hbW (Nat.le_refl _)) hkL hrW hnn N M hN hN64).mono ?_
            rintro e w2 ⟨lA', lc', rfl, q1, q2⟩
            have hb2 := hbW.trans (q2.mono hbW.size)
            obtain ⟨g1, g2, g3⟩ := hkeep2 w2 hb2
            have hWz := hbW.size
            exact ⟨lA', lc', rfl, Lib.hid ⟨q1.mono (fun k h _ => by rcases h with h | h; exact h; exact .inr (by omega)), hb2⟩, g1, g2, g3⟩
          have hp1 : (1 : Int) ≤ (p : Int) + 1 := by omega
          have hgt0 : ¬ (p : Int) + 1 = 0 := by omega
          have hpz : ¬ ((p : Int) + 1 = 0) := hgt0
          clear hiN
          by_cases hc1 : c = 1
          · obtain rfl : p = 0 := by omega
            subst hc1
            rw [if_pos rfl] at hxt
            have hr1 : RX W0 (fun k => (E k ∧ k < w.heap.size) ∨ W0.heap.size ≤ k) (some ax) 0 l0 ∧ Below W0.heap.size W0 W0 := ⟨hxt, Below.refl _ _⟩
            clear hxt
            obtain ⟨⟨-, -, -, s3⟩, -⟩ := hkeep2 W0 (Below.refl _ _)
            have HWITH := Lib.hid hwith; have HM := Lib.hid hM; have HR1 := Lib.hid hr1
            clear hwith h hlr hlk hd0 hx0 hcr hrx hkeep hkeep2 hx hn hkL hM hMM hN HIS HK3 hr1 hcy hxb hxc haE hpl hnn
            go_wp2_with fail
            go_region_held3 (fun w' => w'.cell? ⟨w.heap.size, 0, none⟩ = some (.int .i64 (room : Int)) ∧ w'.cell? ⟨w.heap.size, 1, none⟩ = some (.slice (some ad) N lc) ∧ w'.cell? ⟨w.heap.size, 2, none⟩ = some (.slice gA M gc) ∧ w'.cell? ax = some (.int .i64 y))
              (first | with_reducible exact ⟨p0, p1, p2, s3⟩ | with_reducible exact G2 | with_reducible exact HK32.out _ _ _ _ G2 | go_keep)
              (first
                | (go_simp; with_reducible refine (HWITH.out W0 _ _ HR1.out _ (by first | with_reducible exact Below.refl _ _ | exact (Below.refl _ _).drew | exact below_drews (Below.refl _ _) _ | exact (below_drews (Below.refl _ _) _).drew | exact below_drews ((Below.refl _ _).drew) _)).mono ?_
                   rintro e w2 ⟨lA2, lc2, rfl, HR2, G2, ⟨v0, v1, v2⟩, vz0, vz1, vz2⟩)
                | fail)
            all_goals
              go_wp2_with fail
              obtain ⟨hd2, hb2⟩ := HR2.out
              have hT2 := HT0.out.below hb2
              obtain ⟨f1, f2⟩ := hT2.fin (.int .i64 (room : Int)) (.slice lA2 N lc2) (.slice gA M gc)
              refine bodyPost_ret (v := .tuple #[.agg (DocV room lA2 N lc2 gA M gc), .int .i64 y, .int .i64 0]) (res_cell_slots rfl _ _ (w.heap.size + 1) 28 _ (0, 0) _ _ _ rfl rfl rfl f1 Try.underlying28 rfl (by kernel_rfl)) rfl ?_
              exact ⟨_, rfl, DocR.of HM.out (fin_doc hd2 hbl2 hwz) (hT2.bel.trans f2)⟩
          · rw [if_neg hc1] at hxt
            have hr1 : RX W0 (fun k => (E k ∧ k < w.heap.size) ∨ W0.heap.size ≤ k) (some ⟨ax.block, ax.off + 1, none⟩) (c - 1) l0 ∧ Below W0.heap.size W0 W0 := ⟨hxt, Below.refl _ _⟩
            have hc2 : 1 ≤ c := by omega
            clear hxt
            obtain ⟨⟨-, -, -, s3⟩, -⟩ := hkeep2 W0 (Below.refl _ _)
            have HWITH := Lib.hid hwith; have HM := Lib.hid hM; have HR1 := Lib.hid hr1
            clear hwith h hlr hlk hd0 hx0 hcr hrx hkeep hkeep2 hx hn hkL hM hMM hN HIS HK3 hr1 hcy hxb hxc haE hpl hnn
            go_wp2_with fail
            go_region_held3 (fun w' => w'.cell? ⟨w.heap.size, 0, none⟩ = some (.int .i64 (room : Int)) ∧ w'.cell? ⟨w.heap.size, 1, none⟩ = some (.slice (some ad) N lc) ∧ w'.cell? ⟨w.heap.size, 2, none⟩ = some (.slice gA M gc) ∧ w'.cell? ax = some (.int .i64 y))
              (first | with_reducible exact ⟨p0, p1, p2, s3⟩ | with_reducible exact G2 | with_reducible exact HK32.out _ _ _ _ G2 | go_keep)
              (first
                | (go_simp; with_reducible refine (HWITH.out W0 _ _ HR1.out _ (by first | with_reducible exact Below.refl _ _ | exact (Below.refl _ _).drew | exact below_drews (Below.refl _ _) _ | exact (below_drews (Below.refl _ _) _).drew | exact below_drews ((Below.refl _ _).drew) _)).mono ?_
                   rintro e w2 ⟨lA2, lc2, rfl, HR2, G2, ⟨v0, v1, v2⟩, vz0, vz1, vz2⟩)
                | fail)
            all_goals
              go_wp2_with fail
              obtain ⟨hd2, hb2⟩ := HR2.out
              have hT2 := HT0.out.below hb2
              obtain ⟨f1, f2⟩ := hT2.fin (.int .i64 (room : Int)) (.slice lA2 N lc2) (.slice gA M gc)
              refine bodyPost_ret (v := .tuple #[.agg (DocV room lA2 N lc2 gA M gc), .int .i64 y, .int .i64 0]) (res_cell_slots rfl _ _ (w.heap.size + 1) 28 _ (0, 0) _ _ _ rfl rfl rfl f1 Try.underlying28 rfl (by kernel_rfl)) rfl ?_
              exact ⟨_, rfl, DocR.of HM.out (fin_doc hd2 hbl2 hwz) (hT2.bel.trans f2)⟩
    · rw [if_neg (fun e => hj e.2)]
      rw [hN] at hi hj
      clear hN
      go_enter Try.func39, Try.ntmps39
      go_wp2_with fail
      refine (HIS1.out _).mono ?_
      rintro e W00 ⟨rfl, hbi⟩
      rw [decide_eq_true hi]
      have HT00 := Lib.hid (HT.out.below hbi)
      clear hbi HT
      obtain ⟨p0, p1, p2, pz⟩ := HT00.out.xs
      go_wp2_with fail
      refine (HIS.out _).mono ?_
      rintro e W0 ⟨rfl, hbi⟩
      rw [decide_eq_false hj]
      have HT0 := Lib.hid (HT00.out.below hbi)
      clear hbi HT00 p0 p1 p2 pz
      obtain ⟨p0, p1, p2, pz⟩ := HT0.out.xs
      obtain ⟨⟨q0, q1, q2⟩, qz0, qz1, qz2⟩ := HT0.out.ys
      go_wp2_with fail
      obtain ⟨f1, f2⟩ := HT0.out.fin (.int .i64 (room : Int)) (.slice lA N lc) (.slice gA M gc)
      refine bodyPost_ret (v := .tuple #[.agg (DocV room lA N lc gA M gc), .int .i64 0, .int .i64 5]) (res_cell_slots rfl _ _ (w.heap.size + 1) 28 _ (0, 0) _ _ _ rfl rfl rfl f1 Try.underlying28 rfl (by kernel_rfl)) rfl ?_
      have hbt := HT0.out.bel.trans f2
      exact ⟨_, rfl, DocR.of hM (h.later hbt) hbt⟩
  · rw [if_neg (fun e => hi e.1)]
    rw [hN] at hi
    clear hN
    by_cases hj : 0 ≤ j ∧ j < (N : Int)
    · skip
      go_enter Try.func39, Try.ntmps39
      go_wp2_with fail
      refine (HIS1.out _).mono ?_
      rintro e W00 ⟨rfl, hbi⟩
      rw [decide_eq_false hi]
      have HT00 := Lib.hid (HT.out.below hbi)
      clear hbi HT
      obtain ⟨p0, p1, p2, pz⟩ := HT00.out.xs
      go_wp2_with fail
      refine (HIS.out _).mono ?_
      rintro e W0 ⟨rfl, hbi⟩
      rw [decide_eq_true hj]
      have HT0 := Lib.hid (HT00.out.below hbi)
      clear hbi HT00 p0 p1 p2 pz
      obtain ⟨p0, p1, p2, pz⟩ := HT0.out.xs
      obtain ⟨⟨q0, q1, q2⟩, qz0, qz1, qz2⟩ := HT0.out.ys
      go_wp2_with fail
      obtain ⟨f1, f2⟩ := HT0.out.fin (.int .i64 (room : Int)) (.slice lA N lc) (.slice gA M gc)
      refine bodyPost_ret (v := .tuple #[.agg (DocV room lA N lc gA M gc), .int .i64 0, .int .i64 5]) (res_cell_slots rfl _ _ (w.heap.size + 1) 28 _ (0, 0) _ _ _ rfl rfl rfl f1 Try.underlying28 rfl (by kernel_rfl)) rfl ?_
      have hbt := HT0.out.bel.trans f2
      exact ⟨_, rfl, DocR.of hM (h.later hbt) hbt⟩
    · skip
      go_enter Try.func39, Try.ntmps39
      go_wp2_with fail
      refine (HIS1.out _).mono ?_
      rintro e W00 ⟨rfl, hbi⟩
      rw [decide_eq_false hi]
      have HT00 := Lib.hid (HT.out.below hbi)
      clear hbi HT
      obtain ⟨p0, p1, p2, pz⟩ := HT00.out.xs
      go_wp2_with fail
      refine (HIS.out _).mono ?_
      rintro e W0 ⟨rfl, hbi⟩
      rw [decide_eq_false hj]
      have HT0 := Lib.hid (HT00.out.below hbi)
      clear hbi HT00 p0 p1 p2 pz
      obtain ⟨p0, p1, p2, pz⟩ := HT0.out.xs
      obtain ⟨⟨q0, q1, q2⟩, qz0, qz1, qz2⟩ := HT0.out.ys
      go_wp2_with fail
      obtain ⟨f1, f2⟩ := HT0.out.fin (.int .i64 (room : Int)) (.slice lA N lc) (.slice gA M gc)
      refine bodyPost_ret (v := .tuple #[.agg (DocV room lA N lc gA M gc), .int .i64 0, .int .i64 5]) (res_cell_slots rfl _ _ (w.heap.size + 1) 28 _ (0, 0) _ _ _ rfl rfl rfl f1 Try.underlying28 rfl (by kernel_rfl)) rfl ?_
      have hbt := HT0.out.bel.trans f2
      exact ⟨_, rfl, DocR.of hM (h.later hbt) hbt⟩

end
end Go.Proofs.Ytipflplilkecjaa
