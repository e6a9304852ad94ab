
/-
  Select.
-/
import Derived.Test.YtbgigkamlnchcaaChR
import Derived.Deep.RegionLawGrows
set_option linter.unusedVariables false
set_option linter.unusedSimpArgs false
namespace Go.Proofs.Ytbgigkamlnchcaa
open Go.RowKit Go.Shelf Plain

namespace Plain
theorem firstV_all {s : Ck} : ∀ (l : List Nat) (i : Nat), (∀ m ∈ l, readyV s m = false) → firstV s l i = none
  | [], _, _ => rfl
  | m :: l, i, h => by
    unfold firstV
    rw [if_neg (by rw [h m (by simp)]; simp)]
    exact firstV_all l (i + 1) (fun k hk => h k (by simp [hk]))
theorem waitAll_snoc (t : Int) : ∀ (l : List Nat) (m : Nat) (s : Ck), waitAll t (l ++ [m]) s = { waitAll t l s with rq := (waitAll t l s).rq.set m (gl (waitAll t l s).rq m ++ [t]) }
  | [], m, s => rfl
  | k :: l, m, s => by
    show waitAll t (l ++ [m]) _ = _
    rw [waitAll_snoc t l m]
    rfl
end Plain
theorem results_tmp4 {fn : Func} {a b c d : Tmp} (h : fn.results = #[.tmp a, .tmp b, .tmp c, .tmp d]) (tmps : Array Value) (P : Program) (w : World) :
    (results fn tmps).run P w = .ok (.tuple #[tmps.getD a undef, tmps.getD b undef, tmps.getD c undef, tmps.getD d undef]) w := by
  simp [results, h]
theorem ChM.all10 {w : World} {B : Nat} {h : ChH} {s : Ck} (H : ChM w B h s) : w.cell? ⟨h.g, 0, none⟩ = some h.c0 ∧ w.cell? ⟨h.g, 1, none⟩ = some h.c1 ∧ w.cell? ⟨h.g, 2, none⟩ = some h.c2 ∧ w.cell? ⟨h.g, 3, none⟩ = some h.c3 ∧ w.cell? ⟨h.g, 4, none⟩ = some h.vb ∧
    w.cell? ⟨h.g, 5, none⟩ = some h.c5 ∧ w.cell? ⟨h.g, 6, none⟩ = some h.c6 ∧ w.cell? ⟨h.g, 7, none⟩ = some h.c7 ∧ w.cell? ⟨h.g, 8, none⟩ = some h.vs ∧ w.cell? ⟨h.g, 9, none⟩ = some h.vr :=
  ⟨(H.box.cell 0).trans rfl, (H.box.cell 1).trans rfl, (H.box.cell 2).trans rfl, (H.box.cell 3).trans rfl, (H.box.cell 4).trans rfl, (H.box.cell 5).trans rfl, (H.box.cell 6).trans rfl, (H.box.cell 7).trans rfl, (H.box.cell 8).trans rfl, (H.box.cell 9).trans rfl⟩
abbrev natI (L : List Nat) : List Int := L.map fun (m : Nat) => (m : Int)
section
variable {w : World} {B : Nat} {h : ChH} {s : Ck} {K n : Nat}
set_option maxRecDepth 100000 in
set_option maxHeartbeats 8000000 in
theorem select_any (H : ChM w B h s) (O : CkOk K n s) (hK : K ≤ 50000) (hN : n ≤ 1000) (D : Nat → Prop) (A : Option Addr) (k c : Nat) (L : List Nat) (hr : RN w D A c (natI L)) (hk : L.length = k) (hk0 : 0 < k) (hk1 : k ≤ 1000) (hnd : L.Nodup) (hin : ∀ m ∈ L, m < n) (hD : ∀ i, D i → ¬ h.W i) (t : Int) (ht : 0 ≤ t) :
    Calls Try.prog 23 #[.pointer (some ⟨h.g, 0, none⟩), .slice A k c, .int .i64 t] w fun e w' => e = .returned (.tuple #[.int .i64 (selectV s L t).2.1, .int .i64 (selectV s L t).2.2.1, .int .i64 (selectV s L t).2.2.2.1, .bool (selectV s L t).2.2.2.2]) ∧ ChT w w' B h (selectV s L t).1 := by
  have hch := isChoice_yes H O (by omega) D A k c (natI L) hr (by simpa using hk) hk0 (by omega) (by
    rw [List.nodup_iff_pairwise_ne, List.pairwise_map]
    exact (List.nodup_iff_pairwise_ne.1 hnd).imp (fun h e => h (by omega))) (fun x hx => by
      obtain ⟨m, hm, rfl⟩ := List.mem_map.1 hx
      have := hin m hm
      omega)
  have hat : ∀ i, i < k → ∃ m : Nat, L[i]? = some m ∧ m < n := fun i hi => ⟨L[i], List.getElem?_eq_getElem (by omega), hin _ (List.getElem_mem _)⟩
  have hrow : ∀ W, Fr h.W w W → RN W D A c (natI L) := fun W hf => hr.fr hf (fun i hi _ => hD i hi)
  have hmb : ∀ (i m : Nat), L[i]? = some m → (natI L)[i]? = some (m : Int) := fun i m hm => by rw [List.getElem?_map, hm]; rfl
  have hlen : (natI L).length = k := by simpa using hk
  have HCH := Lib.hid hch; have HAT := Lib.hid hat; have HROW := Lib.hid hrow; have HMB := Lib.hid hmb; have HLEN := Lib.hid hlen; have HKL := Lib.hid hk
  have HH := Lib.hid H; have HO := Lib.hid O; have HIN := Lib.hid hin
  have HWL := Lib.hid (fun k (hk : h.W k) => (H.wlt hk).2.1)
  clear hch hat hrow hmb hlen hr hk hnd hin hD H O
  have h2 : decide (t < 0) = false := by simp; omega
  obtain ⟨R, hR⟩ : ∃ R, R = selectV s L t := ⟨_, rfl⟩
  rw [← hR]
  have HR0 := Lib.hid hR
  clear hR
  go_enter Try.func23, Try.ntmps23
  go_wp2_with fail
  refine HCH.out.mono ?_
  rintro e w1 ⟨rfl, hb1⟩
  have hT1 : ChT w w1 B h s := ⟨HH.out.below hb1 (Nat.le_refl _), (Fr.refl h.W w).trans (Fr.of_below hb1) (fun i hi e => by omega)⟩
  have HT1 := Lib.hid hT1
  clear hb1 hT1 HCH
  go_wp2_with fail
  go_loopw [27] (fun s27 wr => ∃ i : Nat, i ≤ k ∧ s27 = .int .i64 (i : Int) ∧ Hid (ChT w wr B h s ∧ firstV s L 0 = firstV s (L.drop i) i)) (fun s27 _ => k - (intOf s27).toNat)
  case atStart => exact ⟨0, by omega, rfl, Lib.hid ⟨HT1.out, rfl⟩⟩
  case round =>
    clear HT1
    obtain ⟨i, hi, rfl, HI⟩ := hrel
    by_cases hlt : i < k
    · obtain ⟨m, hm, hmn⟩ := HAT.out i hlt
      obtain ⟨ad, rfl, _, _, hcx⟩ := (HROW.out wr HI.out.1.2).at_ (i := i) (by rw [HLEN.out]; exact hlt)
      have hgn : gn (natI L) i = (m : Int) := by
        have h3 := gn_some (l := natI L) (m := i) (by rw [HLEN.out]; exact hlt)
        rw [HMB.out i m hm] at h3
        exact (Option.some.inj h3).symm
      rw [hgn] at hcx
      have hrd := ready_yes HI.out.1.1 HO.out (by omega) (by omega) m hmn
      have hfs := HI.out.2
      have hdr : L.drop i = m :: L.drop (i + 1) := by
        have hil : i < L.length := by rw [HKL.out]; exact hlt
        rw [List.drop_eq_getElem_cons hil]
        rw [List.getElem?_eq_getElem hil] at hm
        rw [Option.some.inj hm]
      rw [hdr, show firstV s (m :: L.drop (i + 1)) i = if readyV s m then some (i, m) else firstV s (L.drop (i + 1)) (i + 1) from rfl] at hfs
      obtain ⟨y0, y1, y2, y3, y4, y5, y6, y7, y8, y9⟩ := HI.out.1.1.all10
      have q1 : (i : Int) < (k : Int) := by omega
      have q0 : (0 : Int) ≤ (i : Int) := by omega
      have HT := Lib.hid HI.out.1
      cases hrv : readyV s m with
      | true =>
        rw [hrv] at hfs hrd
        simp only [if_true] at hfs
        have hsel : R = ((recvV s m t).1, (i : Int), (recvV s m t).2.1, (recvV s m t).2.2.1, (recvV s m t).2.2.2) := by
          rw [HR0.out]
          unfold selectV
          rw [hfs]
        have hrc := fun W (hT : ChT w W B h s) => recv_any hT.1 HO.out (by omega) (by omega) m hmn t ht
        have HRD := Lib.hid hrd; have HSEL := Lib.hid hsel; have HRC := Lib.hid hrc
        clear hrd hsel hrc hfs hdr hgn hm hrv HI
        go_wp2_with fail
        refine HRD.out.mono ?_
        rintro e w3 ⟨rfl, hb3⟩
        have HT3 := Lib.hid (HT.out.later hb3)
        clear hb3 y0 y1 y2 y3 y4 y5 y6 y7 y8 y9 hcx
        go_wp2_with fail
        refine (HRC.out _ HT3.out).mono ?_
        rintro e w4 ⟨rfl, hT4⟩
        have HT4 := Lib.hid (HT3.out.trans hT4)
        clear hT4
        go_wp2_with fail
        (try simp only [Exit.inBlock, Exit.then])
        refine bodyPost_ret (results_tmp4 rfl _ _ _) rfl ?_
        rw [HSEL.out]
        exact ⟨rfl, HT4.out⟩
      | false =>
        rw [hrv] at hfs hrd
        simp only [Bool.false_eq_true, if_false] at hfs
        have HRD := Lib.hid hrd; have HFS := Lib.hid hfs
        clear hrd hfs hdr hgn hm hrv HI
        go_wp2_with fail
        refine HRD.out.mono ?_
        rintro e w3 ⟨rfl, hb3⟩
        have HT3 := Lib.hid (HT.out.later hb3)
        clear hb3 y0 y1 y2 y3 y4 y5 y6 y7 y8 y9 hcx
        go_wp2_with fail
        exact ⟨⟨i + 1, by omega, by go_num, Lib.hid ⟨HT3.out, HFS.out⟩⟩, by simp [intOf]; omega⟩
    · obtain rfl : i = k := by omega
      have hno := HI.out.2
      rw [List.drop_eq_nil_of_le (by rw [HKL.out]; exact Nat.le_refl _)] at hno
      have hsel : R = (waitAll t L s, -1, 0, -1, false) := by
        rw [HR0.out]
        unfold selectV
        rw [hno]
        rfl
      have HSEL := Lib.hid hsel
      have HT0 := Lib.hid HI.out.1
      clear hsel hno HI
      go_wp2_with fail
      go_loopw [52] (fun s52 wr2 => ∃ j : Nat, j ≤ i ∧ s52 = .int .i64 (j : Int) ∧ Hid (ChT w wr2 B h (waitAll t (L.take j) s))) (fun s52 _ => i - (intOf s52).toNat)
      case atStart => exact ⟨0, by omega, rfl, Lib.hid HT0.out⟩
      case round =>

        clear HT0
        obtain ⟨j, hj, rfl, HI⟩ := hrel
        by_cases hlt2 : j < i
        · obtain ⟨m, hml0, hm⟩ := HAT.out j hlt2
          obtain ⟨ad, rfl, _, _, hcx⟩ := (HROW.out wr HI.out.2).at_ (i := j) (by rw [HLEN.out]; exact hlt2)
          have hgn : gn (natI L) j = (m : Int) := by
            have h3 := gn_some (l := natI L) (m := j) (by rw [HLEN.out]; exact hlt2)
            rw [HMB.out j m hml0] at h3
            exact (Option.some.inj h3).symm
          rw [hgn] at hcx
          have hsn : L.take (j + 1) = L.take j ++ [m] := by rw [List.take_add_one, hml0]; rfl
          have hwa := waitAll_snoc t (L.take j) m s
          rw [← hsn] at hwa
          have hw2 := HO.out.waitAll t (L.take j) (fun m hm => HIN.out m (List.mem_of_mem_take hm))
          have hlj : (L.take j).length ≤ 1000 := Nat.le_trans (List.length_take_le _ _) (by omega)
          have O := hw2.mono (K' := 60000) (by omega)
          have H := HI.out.1
          have hfr := HI.out.2
          obtain ⟨si, hsi⟩ : ∃ x, x = waitAll t (L.take j) s := ⟨_, rfl⟩
          rw [← hsi] at O H hwa
          have hnx : ∀ W, ChT wr W B h (waitAll t (L.take (j + 1)) s) → ChT w W B h (waitAll t (L.take (j + 1)) s) := fun W hT => ⟨hT.1, hfr.trans hT.2 (fun _ _ h => h)⟩
          rw [hwa] at hnx
          have hnx2 : ∀ W, ChT wr W B h { si with rq := si.rq.set m (gl si.rq m ++ [t]) } → ChT w W B h (waitAll t (L.take (j + 1)) s) := fun W hT => by rw [hwa]; exact hnx W hT
          clear hsi
          obtain ⟨b0, b1, b2⟩ := H.cells
          obtain ⟨q, qcap, A, c, f1, f2, f3, f4, f5, f6, f7⟩ := H.rq.at_ (i := m) (by rw [O.l3]; exact hm)
          rw [f1, O.l3] at b2
          have hrow := O.row m
          have hbh := fun W0 T hb hz => behind_one wr _ A c _ f7 (by omega) t W0 T hb hz
          have hml : m < si.rq.length := by rw [O.l3]; exact hm
          have hfin : ∀ W A' c', Below wr.heap.size wr W → RN W (fun k => wr.heap.size ≤ k) A' c' (gl si.rq m ++ [t]) → ChT wr (W.setCell ⟨q, m, none⟩ (.slice A' ((gl si.rq m).length + 1) c')) B h { si with rq := si.rq.set m (gl si.rq m ++ [t]) } := by
            intro W A' c' hb hr
            have hM := H.below hb (Nat.le_refl _)
            have := hM.setR f1 hml (hr.mono (fun i hi _ => H.fresh hi))
            rw [show (gl si.rq m ++ [t]).length = (gl si.rq m).length + 1 by simp] at this
            exact ⟨this, (((Fr.refl h.W wr).trans (Fr.of_below hb) (fun i hi e => by omega))).setCell (p := ⟨q, m, none⟩) (.inl (.inr (.inr f4))) _⟩
          have hgq := (H.wlt (.inr (.inr f4))).2.2
          have hgl := H.box.lt
          have hkeep : ∀ W, Below wr.heap.size wr W → W.cell? ⟨h.g, 9, none⟩ = some (.slice (some ⟨q, 0, none⟩) n qcap) ∧ W.cell? ⟨q, m, none⟩ = some (.slice A (gl si.rq m).length c) ∧ W.frozen? ⟨q, m, none⟩ = false := fun W hb =>
            ⟨(hb.cell (p := ⟨h.g, 9, none⟩) hgl).trans b2, (hb.cell (p := ⟨q, m, none⟩) f3).trans f5, (hb.frozen (p := ⟨q, m, none⟩) f3).trans (f6 m)⟩
          have hsc : ∀ W, Below wr.heap.size wr W → W.cell? ⟨h.g, 9, none⟩ = some (.slice (some ⟨q, 0, none⟩) n qcap) := fun W hb => (hkeep W hb).1
          have HF := Lib.hid hfin; have HB := Lib.hid hbh; have HKP := Lib.hid hkeep; have HSC := Lib.hid hsc; have HNX := Lib.hid hnx2
          clear H O HI hfin hbh hkeep hsc f1 f2 f4 f7 hml hrow b0 b1 hnx hnx2 hwa hsn hgn hml0 hw2 hlj hfr
          generalize (gl si.rq m).length = kq at *
          have h0 : (m : Int) < (n : Int) := by omega
          have h1 : (0 : Int) ≤ (m : Int) := by omega
          have q1 : (j : Int) < (i : Int) := by omega
          have q0 : (0 : Int) ≤ (j : Int) := by omega
          have f60 := f6 m
          have hgq1 : ¬ q = h.g := hgq
          have hgq2 : ¬ h.g = q := fun e => hgq e.symm
          go_wp2_with fail
          have hbd : Below wr.heap.size wr wr.drew := (Below.refl _ _).drew
          have hbd2 : Below wr.heap.size wr wr.drew := (Below.refl _ _).drew
          refine wp_region_noPanic ?_
          refine wp_region_held_drew (S := fun w' => w'.cell? ⟨h.g, 9, none⟩ = some (.slice (some ⟨q, 0, none⟩) n qcap)) (by kernel_rfl) (HSC.out _ hbd) (fun hHeld => ?_)
          refine wpAnyH_take (i := 0) (v := ?v1) rfl (by kernel_rfl) (by kernel_rfl) (by kernel_rfl) (fun _ _ _ h => h) (Or.inl ⟨by rfl, ?hy1⟩) (by assumption) ?rest1
          case hy1 => (intro w hSw; (try dsimp only at hSw); go_simp; try (with_reducible rfl))
          try simp only [Act.put, List.setIfInBounds_toArray, List.set_cons_zero, List.set_cons_succ]
          refine wpAnyH_take (i := 1) (v := ?v2) rfl (by kernel_rfl) (by kernel_rfl) (by kernel_rfl) (fun _ _ _ h => h) (Or.inl ⟨by rfl, ?hy2⟩) (by assumption) ?rest2
          case hy2 => (intro w hSw; (try dsimp only at hSw); go_simp; try (with_reducible rfl))
          try simp only [Act.put, List.setIfInBounds_toArray, List.set_cons_zero, List.set_cons_succ]
          refine wpAnyH_take (i := 2) (v := ?v3) rfl (by kernel_rfl) (by kernel_rfl) (by kernel_rfl) (fun _ _ _ h => h) (Or.inl ⟨by rfl, ?hy3⟩) (by assumption) ?rest3
          case hy3 => (intro w hSw; (try dsimp only at hSw); go_simp; try (with_reducible rfl))
          try simp only [Act.put, List.setIfInBounds_toArray, List.set_cons_zero, List.set_cons_succ]
          refine wpAnyH_take (i := 3) (v := ?v4) rfl (by kernel_rfl) (by kernel_rfl) (by kernel_rfl) (fun _ _ _ h => h) (Or.inl ⟨by rfl, ?hy4⟩) (by assumption) ?rest4
          case hy4 => (intro w hSw; (try dsimp only at hSw); go_simp; try (with_reducible rfl))
          try simp only [Act.put, List.setIfInBounds_toArray, List.set_cons_zero, List.set_cons_succ]
          refine wpAnyH_take (i := 4) (v := ?v5) rfl (by kernel_rfl) (by kernel_rfl) (by kernel_rfl) (fun _ _ _ h => h) (Or.inl ⟨by rfl, ?hy5⟩) (by assumption) ?rest5
          case hy5 => (intro w hSw; (try dsimp only at hSw); go_simp; try (with_reducible rfl))
          try simp only [Act.put, List.setIfInBounds_toArray, List.set_cons_zero, List.set_cons_succ]
          refine wpAnyH_take (i := 5) (v := ?v6) rfl (by kernel_rfl) (by kernel_rfl) (by kernel_rfl) (fun _ _ _ h => h) (Or.inl ⟨by rfl, ?hy6⟩) (by assumption) ?rest6
          case hy6 => (intro w hSw; (try dsimp only at hSw); go_simp; try (with_reducible rfl))
          try simp only [Act.put, List.setIfInBounds_toArray, List.set_cons_zero, List.set_cons_succ]
          refine wpAnyH_take (i := 6) (v := ?v7) rfl (by kernel_rfl) (by kernel_rfl) (by kernel_rfl) (fun _ _ _ h => h) (Or.inl ⟨by rfl, ?hy7⟩) (by assumption) ?rest7
          case hy7 => (intro w hSw; (try dsimp only at hSw); go_simp; try (with_reducible rfl))
          try simp only [Act.put, List.setIfInBounds_toArray, List.set_cons_zero, List.set_cons_succ]
          refine wpAnyH_take (i := 7) (v := ?v8) rfl (by kernel_rfl) (by kernel_rfl) (by kernel_rfl) (fun _ _ _ h => h) (Or.inl ⟨by rfl, ?hy8⟩) (by assumption) ?rest8
          case hy8 => (intro w hSw; (try dsimp only at hSw); go_simp; try (with_reducible rfl))
          try simp only [Act.put, List.setIfInBounds_toArray, List.set_cons_zero, List.set_cons_succ]
          refine wpAnyH_take (i := 8) (v := ?v9) rfl (by kernel_rfl) (by kernel_rfl) (by kernel_rfl) (fun _ _ _ h => h) (Or.inl ⟨by rfl, ?hy9⟩) (by assumption) ?rest9
          case hy9 => (intro w hSw; (try dsimp only at hSw); go_simp; try (with_reducible rfl))
          try simp only [Act.put, List.setIfInBounds_toArray, List.set_cons_zero, List.set_cons_succ]
          refine wpAnyH_take (i := 9) (v := ?v10) rfl (by kernel_rfl) (by kernel_rfl) (by kernel_rfl) (fun _ _ _ h => h) (Or.inl ⟨by rfl, ?hy10⟩) (by assumption) ?rest10
          case hy10 => (intro w hSw; (try dsimp only at hSw); go_simp; try (with_reducible rfl))
          try simp only [Act.put, List.setIfInBounds_toArray, List.set_cons_zero, List.set_cons_succ]
          refine wpAnyH_take (i := 10) (v := ?v11) rfl (by kernel_rfl) (by kernel_rfl) (by kernel_rfl) (fun _ _ _ h => h) (Or.inl ⟨by rfl, ?hy11⟩) (by assumption) ?rest11
          case hy11 => (intro w hSw; (try dsimp only at hSw); go_simp; try (with_reducible rfl))
          try simp only [Act.put, List.setIfInBounds_toArray, List.set_cons_zero, List.set_cons_succ]
          refine wpAnyH_take (i := 12) (v := ?v12) rfl (by kernel_rfl) (by kernel_rfl) (by kernel_rfl) (fun _ _ _ h => h) (Or.inl ⟨by rfl, ?hy12⟩) (by assumption) ?rest12
          case hy12 => (intro w hSw; (try dsimp only at hSw); go_simp; try (with_reducible rfl))
          try simp only [Act.put, List.setIfInBounds_toArray, List.set_cons_zero, List.set_cons_succ]
          refine wpAnyH_ready (rs := [11, 13]) (by kernel_rfl) (by simp) ?_
          refine AllReadyH.cons rfl (fun K hK => ?_) (AllReadyH.cons rfl (fun K hK => ?_) AllReadyH.nil)
          · go_simp
            refine hK.out _ _ ?_ (fun hHeld => ?_)
            · exact HSC.out _ hbd
            clear hK K
            try simp only [Act.put, List.setIfInBounds_toArray, List.set_cons_zero, List.set_cons_succ]
            refine wpAnyH_ready (rs := [13]) (by kernel_rfl) (by simp) ?_
            refine AllReadyH.cons rfl (fun K hK => ?_) AllReadyH.nil
            go_simp
            refine hK.out _ _ ?_ (fun hHeld => ?_)
            · exact HSC.out _ (hbd.alloc (by simp) _)
            clear hK K
            try simp only [Act.put, List.setIfInBounds_toArray, List.set_cons_zero, List.set_cons_succ]
            refine wpAnyH_ready (rs := [14]) (by kernel_rfl) (by simp) ?_
            refine AllReadyH.cons rfl (fun K hK => ?_) AllReadyH.nil
            go_simp
            refine (show Calls Try.prog 35 _ ((wr.alloc (.cells #[.int .i64 t] 3)).drew) _ from HB.out wr.drew 3 hbd rfl).mono ?_
            rintro e w1 ⟨A', c', rfl, hr, hb⟩
            try go_simp
            refine hK.out _ _ ?_ (fun hHeld => ?_)
            · exact HSC.out _ hb
            clear hK K
            try simp only [Act.put, List.setIfInBounds_toArray, List.set_cons_zero, List.set_cons_succ]
            obtain ⟨z1, z2, z3⟩ := HKP.out w1 hb
            have HR := Lib.hid hr; have HBL := Lib.hid hb
            clear hr hb
            refine wpAnyH_take (i := 15) (v := ?v13) rfl (by kernel_rfl) (by kernel_rfl) (by kernel_rfl) (fun _ _ _ h => h) (Or.inl ⟨by rfl, ?hy13⟩) (by assumption) ?rest13
            case hy13 => (intro w hSw; (try dsimp only at hSw); go_simp; try (with_reducible rfl))
            try simp only [Act.put, List.setIfInBounds_toArray, List.set_cons_zero, List.set_cons_succ]
            refine wpAnyH_ready (rs := [16]) (by kernel_rfl) (by simp) ?_
            refine AllReadyH.cons rfl (fun K hK => ?_) AllReadyH.nil
            go_simp
            refine hK.out _ _ ?_ (fun hHeld => ?_)
            · exact (World.cell?_setCell_far _ _ _ _ (by show q ≠ h.g; exact hgq1)).trans (HSC.out _ HBL.out)
            clear hK K
            try simp only [Act.put, List.setIfInBounds_toArray, List.set_cons_zero, List.set_cons_succ]
            refine wpAnyH_done (by kernel_rfl) ?_ _
            refine NoPanic.normal ?_
            go_wp2_with fail
            exact ⟨⟨j + 1, by omega, by go_num, Lib.hid (HNX.out _ (HF.out _ _ _ HBL.out HR.out))⟩, by simp [intOf]; omega⟩
          · go_simp
            refine hK.out _ _ ?_ (fun hHeld => ?_)
            · exact HSC.out _ (hbd.alloc (by simp) _)
            clear hK K
            try simp only [Act.put, List.setIfInBounds_toArray, List.set_cons_zero, List.set_cons_succ]
            obtain ⟨y1, y2, y3⟩ := HKP.out _ (hbd.alloc (by simp) (.cells #[.int .i64 t] 3))
            obtain ⟨y4, y5, y6⟩ := HKP.out _ (hbd2.alloc (by simp) (.cells #[.int .i64 t] 3))
            refine wpAnyH_ready (rs := [11]) (by kernel_rfl) (by simp) ?_
            refine AllReadyH.cons rfl (fun K hK => ?_) AllReadyH.nil
            go_simp
            refine hK.out _ _ ?_ (fun hHeld => ?_)
            · exact HSC.out _ (hbd.alloc (by simp) _)
            clear hK K
            try simp only [Act.put, List.setIfInBounds_toArray, List.set_cons_zero, List.set_cons_succ]
            refine wpAnyH_ready (rs := [14]) (by kernel_rfl) (by simp) ?_
            refine AllReadyH.cons rfl (fun K hK => ?_) AllReadyH.nil
            go_simp
            refine (show Calls Try.prog 35 _ ((wr.alloc (.cells #[.int .i64 t] 3)).drew) _ from HB.out wr.drew 3 hbd rfl).mono ?_
            rintro e w1 ⟨A', c', rfl, hr, hb⟩
            try go_simp
            refine hK.out _ _ ?_ (fun hHeld => ?_)
            · exact HSC.out _ hb
            clear hK K
            try simp only [Act.put, List.setIfInBounds_toArray, List.set_cons_zero, List.set_cons_succ]
            obtain ⟨z1, z2, z3⟩ := HKP.out w1 hb
            have HR := Lib.hid hr; have HBL := Lib.hid hb
            clear hr hb
            refine wpAnyH_take (i := 15) (v := ?v14) rfl (by kernel_rfl) (by kernel_rfl) (by kernel_rfl) (fun _ _ _ h => h) (Or.inl ⟨by rfl, ?hy14⟩) (by assumption) ?rest14
            case hy14 => (intro w hSw; (try dsimp only at hSw); go_simp; try (with_reducible rfl))
            try simp only [Act.put, List.setIfInBounds_toArray, List.set_cons_zero, List.set_cons_succ]
            refine wpAnyH_ready (rs := [16]) (by kernel_rfl) (by simp) ?_
            refine AllReadyH.cons rfl (fun K hK => ?_) AllReadyH.nil
            go_simp
            refine hK.out _ _ ?_ (fun hHeld => ?_)
            · exact (World.cell?_setCell_far _ _ _ _ (by show q ≠ h.g; exact hgq1)).trans (HSC.out _ HBL.out)
            clear hK K
            try simp only [Act.put, List.setIfInBounds_toArray, List.set_cons_zero, List.set_cons_succ]
            refine wpAnyH_done (by kernel_rfl) ?_ _
            refine NoPanic.normal ?_
            go_wp2_with fail
            exact ⟨⟨j + 1, by omega, by go_num, Lib.hid (HNX.out _ (HF.out _ _ _ HBL.out HR.out))⟩, by simp [intOf]; omega⟩
        · obtain rfl : j = i := by omega
          have hT := HI.out
          rw [List.take_of_length_le (by rw [HKL.out]; exact Nat.le_refl _)] at hT
          have HT9 := Lib.hid hT
          clear hT HI
          go_wp2_with fail
          (try simp only [Exit.inBlock, Exit.then])
          refine bodyPost_ret (results_tmp4 rfl _ _ _) rfl ?_
          rw [HSEL.out]
          exact ⟨rfl, HT9.out⟩
end
end Go.Proofs.Ytbgigkamlnchcaa
