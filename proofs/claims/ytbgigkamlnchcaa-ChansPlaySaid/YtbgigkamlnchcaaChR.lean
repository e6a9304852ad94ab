
/-
  slices.Sorted of a row's numbers; whether a list is a choice.
-/
import Derived.Test.YtbgigkamlnchcaaChQ
import Derived.Test.YtbgigkamlnchcaaChShelf
import Derived.Sort.OwnSortedInts
set_option linter.unusedVariables false
set_option linter.unusedSimpArgs false
namespace Go.Proofs.Ytbgigkamlnchcaa
open Go.RowKit Go.Shelf Plain

set_option maxHeartbeats 1000000 in
theorem collect_any (w : World) (D : Nat → Prop) (A : Option Addr) (n c bx : Nat) (L : List Int) (hr : RN w D A c L) (hn : L.length = n) (hK : n ≤ 1000000) (hbx : Blk w bx 25 #[.slice A n c]) :
    Calls Try.prog 51 #[.func (.func 53) #[] #[.pointer (some ⟨bx, 0, none⟩)]] w fun e w' => ∃ v, e = .returned v ∧ OwnI w' w.heap.size v L ∧ Below w.heap.size w w' := by
  have ha := appendSeq_any w D A n c bx L hr hn hK hbx
  have HA := Lib.hid ha
  clear ha hr hn hbx
  go_enter Try.func51, Try.ntmps51
  go_wp2_with fail
  refine HA.out.mono ?_
  rintro e w1 ⟨v, rfl, h1, h2⟩
  have H1 := Lib.hid h1; have H2 := Lib.hid h2
  clear h1 h2
  go_wp2_with fail
  go_ret
  exact ⟨_, rfl, H1.out, H2.out⟩
abbrev srt (L : List Int) : List Int := L.mergeSort fun x y => decide (x ≤ y)
theorem srt_perm (L : List Int) : (srt L).Perm L := List.mergeSort_perm _ _
set_option maxHeartbeats 1000000 in
theorem sorted_any (w : World) (D : Nat → Prop) (A : Option Addr) (n c bx : Nat) (L : List Int) (hr : RN w D A c L) (hn : L.length = n) (hn0 : 0 < n) (hK : n ≤ 1000000) (hbx : Blk w bx 25 #[.slice A n c]) :
    Calls Try.prog 45 #[.func (.func 53) #[] #[.pointer (some ⟨bx, 0, none⟩)]] w fun e w' => ∃ b c', e = .returned (.slice (some ⟨b, 0, none⟩) n c') ∧ w'.ownsRow w.heap.size 3 1 (.slice (some ⟨b, 0, none⟩) n c') n ((srt L).map EnI) ∧ Below w.heap.size w w' := by
  have ha := collect_any w D A n c bx L hr hn hK hbx
  have HA := Lib.hid ha; have HN := Lib.hid hn
  clear ha hr hn hbx
  go_enter Try.func45, Try.ntmps45
  go_wp2_with fail
  refine HA.out.mono ?_
  rintro e w1 ⟨v, rfl, h1, h2⟩
  unfold OwnI at h1
  rw [HN.out] at h1
  rcases h1.2 with ⟨_, h0⟩ | ⟨g, cap, cur, rfl, hb, hh, hnc, hcm, hcs, ht⟩
  · omega
  have hH : Go.Sort.Holds (Value.int .i64) w1 g 0 L.toArray := holds_of_blockI hh (by rw [HN.out]; simpa using ht)
  have hgl : g < w1.heap.size := (Array.getElem?_eq_some_iff.1 hh).1
  have hS := Try.slices_Sort_int g 0 cap L w1 hH hgl (by rw [HN.out]; omega)
  rw [HN.out] at hS
  have hfin : ∀ k os, (Go.Sort.grow (Go.Sort.putRow (Value.int .i64) (Go.Sort.ahead w1 k) g 0 (srt L).toArray) os).ownsRow w.heap.size 3 1 (.slice (some ⟨g, 0, none⟩) n cap) n ((srt L).map EnI) ∧ Below w.heap.size w (Go.Sort.grow (Go.Sort.putRow (Value.int .i64) (Go.Sort.ahead w1 k) g 0 (srt L).toArray) os) := by
    intro k os
    have hl : (srt L).length = L.length := (srt_perm L).length_eq
    have h5 := ownsRow_sortedI (n := k) (os := os) (e := 3) (ss := L) (ts := srt L) hl hb hh (by rw [HN.out]; exact hnc) hcm hcs
    rw [HN.out] at h5
    exact ⟨h5, h2.grown (grownBy_sortedI _) h2.size (fun r hr => by cases hr; exact hb)⟩
  have HS := Lib.hid hS; have HF := Lib.hid hfin
  clear h1 h2 hb hh hnc hcm hcs ht hH hgl hS hfin HA
  go_wp2_with fail
  refine HS.out.mono ?_
  rintro e w2 ⟨rfl, k, os, rfl⟩
  obtain ⟨f1, f2⟩ := HF.out k os
  have F1 := Lib.hid f1; have F2 := Lib.hid f2
  clear f1 f2 HF HS
  go_wp2_with fail
  go_ret
  exact ⟨_, _, rfl, F1.out, F2.out⟩
theorem keeps_all {L : List Int} (h : L.Nodup) (m : Nat) (hm : m < L.length) : Lib.keeps L.toArray m = true := by
  rcases Nat.eq_zero_or_pos m with h0 | h0
  · exact Lib.keeps_lt_one _ _ (by omega)
  · refine Lib.keeps_pos (fun e => ?_)
    have h1 : L.toArray[m]! = L[m] := by simp [hm]
    have h2 : L.toArray[m - 1]! = L[m - 1] := by simp [show m - 1 < L.length by omega]
    rw [h1, h2] at e
    exact List.pairwise_iff_getElem.1 h (m - 1) m (by omega) hm (by omega) e.symm
theorem compact_len {L : List Int} (h : L.Nodup) : (Lib.compact L).length = L.length := by
  unfold Lib.compact Lib.compactUpTo
  rw [List.length_map, List.filter_eq_self.2 (fun m hm => keeps_all h m (List.mem_range.1 hm)), List.length_range]
theorem grow_none (W : World) : Go.Sort.grow W #[] = W := by
  unfold Go.Sort.grow
  cases W
  simp
section
variable {w : World} {B : Nat} {h : ChH} {s : Ck} {K n : Nat}
set_option maxRecDepth 100000 in
set_option maxHeartbeats 2000000 in
theorem isChoice_yes (H : ChM w B h s) (O : CkOk K n s) (hN : n ≤ 1000000) (D : Nat → Prop) (A : Option Addr) (k c : Nat) (L : List Int) (hr : RN w D A c L) (hk : L.length = k) (hk0 : 0 < k) (hk1 : k ≤ 1000000) (hnd : L.Nodup) (hin : ∀ x ∈ L, 0 ≤ x ∧ x < (n : Int)) :
    Calls Try.prog 37 #[.pointer (some ⟨h.g, 0, none⟩), .slice A k c] w fun e w' => e = .returned (.bool true) ∧ Below w.heap.size w w' := by
  have hso := sorted_any (w.alloc (.cells #[.slice A k c] 25)) D A k c w.heap.size L (hr.alloc _) hk hk0 hk1 (Blk.new w _ _)
  have hsl : (srt L).length = k := by rw [(srt_perm L).length_eq]; exact hk
  have hsn : (srt L).Nodup := (srt_perm L).nodup_iff.2 hnd
  have hsm : ∀ i, i < k → ∃ m : Nat, m < n ∧ (srt L)[i]? = some (m : Int) := fun i hi => by
    have hx : (srt L)[i]? = some ((srt L)[i]'(by omega)) := List.getElem?_eq_getElem (by omega)
    have hm := (srt_perm L).mem_iff.1 (List.mem_of_getElem? hx)
    obtain ⟨h1, h2⟩ := hin _ hm
    obtain ⟨m, hm2⟩ := Int.eq_ofNat_of_zero_le h1
    rw [hm2] at hx h2
    exact ⟨m, by omega, hx⟩
  have hhas := fun W (hb : Below w.heap.size w W) m hm => has_yes (H.below hb (Nat.le_refl _)) O m hm hN
  have hcl := compact_len hsn
  obtain ⟨m0, hm0, hx0⟩ := hsm 0 hk0
  obtain ⟨m1, hm1, hx1⟩ := hsm (k - 1) (by omega)
  obtain ⟨S, hS⟩ : ∃ S, S = srt L := ⟨_, rfl⟩
  rw [← hS] at hso hsl hsn hcl hx0 hx1
  have HSO := Lib.hid hso; have HH := Lib.hid hhas; have HCL := Lib.hid hcl; have HSL := Lib.hid hsl
  have HX0 := Lib.hid hx0; have HX1 := Lib.hid hx1
  clear hso hsl hsn hsm hhas hcl hS H O hr hk hnd hin hx0 hx1
  go_enter Try.func37, Try.ntmps37
  go_wp2_with fail
  refine (values_any w A k c).mono ?_
  rintro e w1 ⟨rfl, rfl⟩
  go_wp2_with fail
  refine HSO.out.mono ?_
  rintro e w2 ⟨b, c', rfl, hown, hbel⟩
  have hb2 : Below w.heap.size w w2 := ((Below.refl _ w).alloc (Nat.le_refl _) _).trans (hbel.mono (by simp))
  obtain ⟨b', c2, cs, e1, h1, h2, h3, _, h5, h6, h7⟩ := own_form hown hk0
  injection e1 with e1 _ e2
  injection e1 with e1
  injection e1 with e1
  subst e1 e2
  have hat : ∀ i m, S[i]? = some (m : Int) → w2.cell? ⟨b, i, none⟩ = some (.int .i64 (m : Int)) := fun i m hx => by
    have hi : i < k := by have := (List.getElem?_eq_some_iff.1 hx).1; have := HSL.out; omega
    rw [h5.cell]
    have h8 : (cs.take k)[i]? = some (EnI m) := by rw [h7, List.getElem?_map, hx]; rfl
    rw [List.getElem?_take_of_lt hi] at h8
    simpa using h8
  have hc0 := hat 0 m0 HX0.out
  have hc1 := hat (k - 1) m1 HX1.out
  have hbig : w.heap.size ≤ b := by simp at h2; omega
  have hcmp : ∀ j, Calls Try.prog 47 #[.slice (some ⟨b, 0, none⟩) k c'] (w2.drewN j) fun e w' => ∃ A2 c3, e = .returned (.slice A2 k c3) ∧ Below w.heap.size w w' := by
    intro j
    have hblk := h5.drewN j
    have hH : Go.Sort.Holds (Value.int .i64) (w2.drewN j) b 0 S.toArray := holds_of_blockI hblk (by rw [HSL.out]; simpa using h7)
    have hC := Try.slices_Compact_int b 0 c' S (w2.drewN j) hH (by rw [HSL.out]; omega) (by rw [HSL.out]; exact h1)
    rw [HSL.out] at hC
    refine hC.mono ?_
    rintro e w' ⟨rfl, q, rfl⟩
    refine ⟨_, _, by rw [HCL.out, HSL.out], ?_⟩
    have hg := grownBy_sortedI (w := w2.drewN j) (g := b) (n := q) (os := #[]) (Lib.compact S ++ List.replicate (k - (Lib.compact S).length) 0).toArray
    rw [grow_none] at hg
    exact (below_drews hb2 j).grown hg (below_drews hb2 j).size (fun r hr => by cases hr; exact hbig)
  have HC := Lib.hid hcmp; have HB2 := Lib.hid hb2
  have hh0 := HH.out w2 hb2 m0 hm0
  have hh1 := fun j => HH.out (w2.drewN j) (below_drews hb2 j) m1 hm1
  have H0 := Lib.hid hh0; have H1 := Lib.hid hh1
  obtain ⟨km, rfl⟩ : ∃ km, k = km + 1 := ⟨k - 1, by omega⟩
  rw [show km + 1 - 1 = km by omega] at hc1
  clear hcmp hb2 hh0 hh1 hown hbel h2 h3 h5 h6 h7 hat HSO HH HCL HSL HX0 HX1
  generalize h.g = g at *
  have q1 : decide (((km : Int) + 1) > 0) = true := by simp
  have q2 : (km : Int) < (km : Int) + 1 := by omega
  have q3 : (0 : Int) < (km : Int) + 1 := by omega
  go_wp2_with fail
  refine H0.out.mono ?_
  rintro e w3 ⟨rfl, j, rfl⟩
  go_wp2_with fail
  refine (H1.out j).mono ?_
  rintro e w3 ⟨rfl, j2, rfl⟩
  go_wp2_with fail
  refine (HC.out (j + j2)).mono ?_
  rintro e w3 ⟨A2, c3, rfl, hb3⟩
  have HB3 := Lib.hid hb3
  clear hb3
  go_wp2_with fail
  go_ret
  exact ⟨rfl, HB3.out⟩
end
end Go.Proofs.Ytbgigkamlnchcaa
