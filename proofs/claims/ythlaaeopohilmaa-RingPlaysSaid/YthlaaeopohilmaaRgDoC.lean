/-
  The document's ring: Cut.
-/
import Derived.Test.YthlaaeopohilmaaRgDoc
set_option linter.unusedVariables false
set_option linter.unusedSimpArgs false
namespace Go.Proofs.Ythlaaeopohilmaa
open Go.RowKit Plain

namespace Plain
theorem tmod3 (v : Int) : -3 < v.tmod 3 ∧ v.tmod 3 < 3 := by
  rcases Int.le_total 0 v with h | h
  · rw [Int.tmod_eq_emod_of_nonneg h]; omega
  · obtain ⟨u, rfl⟩ : ∃ u, v = -u := ⟨-v, by omega⟩
    rw [Int.neg_tmod, Int.tmod_eq_emod_of_nonneg (by omega)]; omega
/-- A number modulo 3, from 0 on. -/
def modV (v : Int) : Int := (v.tmod 3 + 3) % 3
/-- Whether it is cut. -/
def cutB (k v : Int) : Bool := modV v == k
def cutL (k : Int) (L : List Int) : List Int := L.filter fun v => !cutB k v
theorem cutL_le (k : Int) (L : List Int) : (cutL k L).length ≤ L.length := List.length_filter_le _ _
theorem cutL_take {k : Int} {L : List Int} {j : Nat} {v : Int} (hv : L[j]? = some v) : cutL k (L.take (j + 1)) = if cutB k v then cutL k (L.take j) else cutL k (L.take j) ++ [v] := by
  unfold cutL
  rw [List.take_add_one, hv, List.filter_append]
  by_cases h : cutB k v = true <;> simp [h]
theorem cutL_sum (k : Int) (L : List Int) : (L.filter (cutB k)).length + (cutL k L).length = L.length := by
  unfold cutL
  induction L with
  | nil => rfl
  | cons v r ih => by_cases h : cutB k v = true <;> simp [h] <;> omega
end Plain

set_option maxHeartbeats 4000000 in
theorem refCut_any (room : Nat) (A : Option Addr) (c : Nat) (L : List Int) (w : World) (k : Int) (hk : 0 ≤ k ∧ k < 3) (h3 : L.length ≤ 1024) (D : Nat → Prop) (hx : RX w D A c L) :
    Calls Try.prog 30 #[.agg #[.int .i64 (room : Int), .slice A L.length c], .int .i64 k, .int .i64 3] w fun e w' => ∃ A' c', e = .returned (.tuple #[.agg #[.int .i64 (room : Int), .slice A' (cutL k L).length c'], .int .i64 ((L.filter (cutB k)).length : Int)]) ∧ RX w' (fun i => w.heap.size ≤ i) A' c' (cutL k L) ∧ Below w.heap.size w w' := by
  obtain ⟨i0, hi0, hz0, hz1, hz2⟩ := info_parts info_int
  have hr := hx.reads
  have HR := Lib.hid hr
  clear hx hr
  have hb0 : Blk ((w.alloc (.cells #[.int .i64 (room : Int), .slice A L.length c] 27)).alloc (.cells #[.int .i64 0, .slice none 0 0] 27)) w.heap.size 27 #[.int .i64 (room : Int), .slice A L.length c] := (Blk.new w _ _).alloc _
  have hb1 : Blk ((w.alloc (.cells #[.int .i64 (room : Int), .slice A L.length c] 27)).alloc (.cells #[.int .i64 0, .slice none 0 0] 27)) (w.heap.size + 1) 27 #[.int .i64 0, .slice none 0 0] := by
    have := Blk.new (w.alloc (.cells #[.int .i64 (room : Int), .slice A L.length c] 27)) 27 #[.int .i64 0, .slice none 0 0]
    simpa using this
  have hbel : Below w.heap.size w ((w.alloc (.cells #[.int .i64 (room : Int), .slice A L.length c] 27)).alloc (.cells #[.int .i64 0, .slice none 0 0] 27)) := ((Below.refl _ _).alloc (Nat.le_refl _) _).alloc (by simp) _
  have HB0 := Lib.hid hb0; have HB1 := Lib.hid hb1; have HBEL := Lib.hid hbel
  clear hb0 hb1 hbel
  go_enter Try.func30, Try.ntmps30
  go_wp2_with fail
  go_loopw [8, 9] (fun s8 s9 wr => ∃ (vl : Value) (j : Nat), vl = s8 ∧ j ≤ L.length ∧ s9 = .int .i64 (j : Int) ∧ OwnI wr (w.heap.size + 1 + 1) vl (cutL k (L.take j)) ∧ Blk wr w.heap.size 27 #[.int .i64 (room : Int), .slice A L.length c] ∧ Blk wr (w.heap.size + 1) 27 #[.int .i64 0, .slice none 0 0] ∧ Below w.heap.size w wr ∧ w.heap.size + 1 + 1 ≤ wr.heap.size) (fun _ s9 _ => L.length - (intOf s9).toNat)
  case atStart => exact ⟨_, 0, rfl, by omega, rfl, OwnI.nil _ _, HB0.out, HB1.out, HBEL.out, by simp⟩
  case round =>
    clear HB0 HB1 HBEL
    obtain ⟨vl, j, rfl, hj, rfl, hown, hb0, hb1, hbel, hz⟩ := hrel
    have c0 : wr.cell? ⟨w.heap.size, 0, none⟩ = some (.int .i64 (room : Int)) := (hb0.cell 0).trans rfl
    have c1 : wr.cell? ⟨w.heap.size, 1, none⟩ = some (.slice A L.length c) := (hb0.cell 1).trans rfl
    have cz1 : wr.frozen? ⟨w.heap.size, 1, none⟩ = false := hb0.frozen 1
    have d0 : wr.cell? ⟨w.heap.size + 1, 0, none⟩ = some (.int .i64 0) := (hb1.cell 0).trans rfl
    have d1 : wr.cell? ⟨w.heap.size + 1, 1, none⟩ = some (.slice none 0 0) := (hb1.cell 1).trans rfl
    have dz0 : wr.frozen? ⟨w.heap.size + 1, 0, none⟩ = false := hb1.frozen 0
    have dz1 : wr.frozen? ⟨w.heap.size + 1, 1, none⟩ = false := hb1.frozen 1
    have hcl := cutL_le k (L.take j)
    have hlt0 : (L.take j).length = j := by rw [List.length_take]; omega
    rw [hlt0] at hcl
    have HOWN := Lib.hid hown; have K0 := Lib.hid hb0; have K1 := Lib.hid hb1; have KB := Lib.hid hbel
    clear hown hb0 hb1 hbel hlt0
    by_cases hlt : j < L.length
    · obtain ⟨ad, x, rfl, hab, hx, hcx0⟩ := HR.out.num hlt
      have hcx := (KB.out.cell (p := ad.add j) (by rw [block_of_add]; exact hab)).trans hcx0
      have hm := tmod3 x
      obtain ⟨hm1, hm2⟩ := hm
      have hct := cutL_take (k := k) hx
      have HCT := Lib.hid hct
      clear hcx0 hx hct
      by_cases hcut : (x.tmod 3 + 3) % 3 = k
      · have hcb : cutB k x = true := by unfold cutB modV; simpa using hcut
        have hct2 := HCT.out
        rw [hcb, if_pos rfl] at hct2
        have HCT2 := Lib.hid hct2
        have hne : ((x.tmod 3 + 3) % 3 != k) = false := by simpa using hcut
        clear hcb hct2 hcut HCT
        go_wp2_with fail
        exact ⟨⟨_, j + 1, rfl, by omega, by go_num, by rw [HCT2.out]; exact HOWN.out, K0.out, K1.out, KB.out, hz⟩, by simp [intOf]; omega⟩
      · have hcb : cutB k x = false := by unfold cutB modV; simpa using hcut
        have hct2 := HCT.out
        rw [hcb, if_neg (by simp)] at hct2
        have HCT2 := Lib.hid hct2
        have hne : ((x.tmod 3 + 3) % 3 != k) = true := by simpa using hcut
        clear hcb hct2 hcut HCT
        go_wp2_with (at_builtin; go_must (refine wpList_append_any _ rfl (.tmp 31) (.tmp 37) _ rfl (w.heap.size + 1 + 1) 3 i0 _ 1 8 Try.underlying22 hi0 hz0 hz1 hz2 rfl (by decide) vl (cutL k (L.take j)).length ((cutL k (L.take j)).map EnI) rfl (HOWN.out.alloc _) _ _ 1 1 [.int .i64 x] rfl (reads_one_int _ x _) (by simp [Value.oneCell']) ?f1 ?f2 ?f3 ?f4))
        case f1 => unfold maxLen; omega
        case f2 => omega
        case f3 => simp; omega
        case f4 =>
        intro v5 w6 hown5 hgr hat
        have hown6 := OwnI.snoc hown5
        rw [← HCT2.out] at hown6
        have hv := fun i (hi : vl.ownBlock = some i) => (HOWN.out.lt i hi).1
        have hf : Fr (fun i => vl.ownBlock = some i) wr w6 := ((Fr.refl _ wr).alloc _).trans (Fr.of_grown hgr) (fun _ _ h => h)
        have hb0 := hf.blk K0.out (fun h => by have := hv _ h; omega)
        have hb1 := hf.blk K1.out (fun h => by have := hv _ h; omega)
        have hbel := KB.out.trans (hf.below (by omega) (fun i hi => by have := hv i hi; omega))
        have hz6 := hf.size
        have HO6 := Lib.hid hown6; have J0 := Lib.hid hb0; have J1 := Lib.hid hb1; have JB := Lib.hid hbel
        clear hown5 hown6 hgr hat hv hf hb0 hb1 hbel HOWN K0 K1 KB
        go_wp2_with fail
        exact ⟨⟨_, j + 1, rfl, by omega, by go_num, HO6.out, J0.out, J1.out, JB.out, by omega⟩, by simp [intOf]; omega⟩
    · have hjl : j = L.length := by omega
      have hown := HOWN.out
      rw [hjl, List.take_length] at hown
      have hcl2 := cutL_le k L
      have hsum := cutL_sum k L
      obtain ⟨A', c', rfl, hcc, _⟩ := hown.slice
      obtain ⟨M, hM⟩ : ∃ M, M = (cutL k L).length := ⟨_, rfl⟩
      obtain ⟨C, hC⟩ : ∃ C, C = (L.filter (cutB k)).length := ⟨_, rfl⟩
      have hown2 : wr.ownsRow (w.heap.size + 1 + 1) 3 1 (.slice A' (cutL k L).length c') (cutL k L).length ((cutL k L).map EnI) := hown
      rw [← hM] at hown2 hcl2 hsum hcc ⊢
      rw [← hC] at hsum
      have hw1 : IntKind.i64.wrap ((L.length : Int) - (M : Int)) = (C : Int) := by rw [IntWalk.i64_in _ (by omega)]; omega
      have hfs := (((Fr.refl (fun i => i = w.heap.size ∨ i = w.heap.size + 1) wr).setCell (p := ⟨w.heap.size, 1, none⟩) (.inl (.inl rfl)) (.slice A' M c')).setCell (p := ⟨w.heap.size + 1, 0, none⟩) (.inl (.inr rfl)) (.int .i64 (room : Int))).setCell (p := ⟨w.heap.size + 1, 1, none⟩) (.inl (.inr rfl)) (.slice A' M c')
      have hown3 := hfs.own hown2 (fun i hi => by have := (hown2.lt i hi).1; omega)
      have hb3 := ((K1.out.far (p := ⟨w.heap.size, 1, none⟩) (by show w.heap.size + 1 ≠ w.heap.size; omega) (.slice A' M c')).set_ 0 (.int .i64 (room : Int))).set_ 1 (.slice A' M c')
      have hbl3 := KB.out.trans (hfs.below (by omega) (fun i hi => by omega))
      have HM := Lib.hid hM; have HC := Lib.hid hC; have HO3 := Lib.hid hown3; have HB3 := Lib.hid hb3; have HBL3 := Lib.hid hbl3
      clear hM hC hown hown2 hown3 hb3 hbl3 hfs hsum hcl2 hcl HOWN K0 K1 KB hjl
      go_wp2_with fail
      refine bodyPost_ret (v := .tuple #[.agg #[.int .i64 (room : Int), .slice A' M c'], .int .i64 (C : Int)]) (res_cell_slot rfl _ _ (w.heap.size + 1) 27 _ (0, 0) _ _ rfl rfl HB3.out Try.underlying27 rfl (by kernel_rfl)) rfl ?_
      refine ⟨A', c', by rw [← HM.out, ← HC.out], ?_, HBL3.out⟩
      refine (RX.of_own_n HM.out.symm (base := w.heap.size + 1 + 1) ?_).mono (fun i h _ => by omega)
      unfold OwnI
      rw [← HM.out]
      exact HO3.out
end Go.Proofs.Ythlaaeopohilmaa
