
/-
  The walk of HeapRow.
-/
import Derived.Test.YtglgficmfpecgaaRows
import Derived.WalkKit
import Derived.ProofKit
import Derived.OpenShut
import Derived.ShutString
import Derived.ChangeOld
import Derived.Below
import Derived.Test.YtglgficmfpecgaaHpL
import Derived.Test.YtglgficmfpecgaaHpF
import Derived.Test.YtglgficmfpecgaaRgOwn
namespace Go.Proofs.Ytglgficmfpecgaa.heapRow
open Go.ChangeShapes Go.WideShapes Go.ChangeAt Go.RowKit Go.Proofs.Ytglgficmfpecgaa Go.Proofs.Ytglgficmfpecgaa.Plain
open Go.ChangeMaps (open_string shut_string)
set_option linter.unusedVariables false


set_option maxRecDepth 100000 in
set_option maxHeartbeats 40000000 in
theorem walk (a0 : Option Addr) (len0 cap0 : Nat) (z0 : List Int) (a1 : Option Addr) (len1 cap1 : Nat) (z1 : List Int) (w : World) (w0 : IsRow .i64 w a0 len0 cap0 z0) (w1 : IsRow .i64 w a1 len1 cap1 z1) :
    Calls Try.prog 6 #[.slice a0 len0 cap0, .slice a1 len1 cap1] w fun e w' => e = .returned (.bool true) ∧ Below w.heap.size w w' := by
  obtain ⟨l, hl, hR, hlb, hc, hn⟩ := row_int w0
  obtain ⟨m, hm, hR2, hmb, hc2, hn2⟩ := row_int w1
  have hnew := new_hp w w.heap.size (Nat.le_refl _)
  have HN := Lib.hid hnew; have HRD := Lib.hid hR; have HRD2 := Lib.hid hR2; have HLL := Lib.hid hl; have HLB := Lib.hid hlb; have HMB := Lib.hid hmb; have HML := Lib.hid hm
  have HLV := Lib.hid lives_hp
  clear hnew hR hR2 hl hlb hm hmb w0 w1
  obtain ⟨N, hN⟩ : ∃ N, N = min (min len0 len1) 40 := ⟨_, rfl⟩
  have hN40 : N ≤ 40 := by omega
  have hN0 : N ≤ len0 := by omega
  have hN1 : N ≤ len1 := by omega
  have hway : (N < len0 ∧ N < len1 ∧ N = 40) ∨ (N < len0 ∧ N = len1) ∨ N = len0 := by omega
  clear hN
  rcases hway with hway | hway | hway
  · go_enter Try.func6, Try.ntmps6
    go_wp2_with fail
    refine HN.out.mono ?_
    rintro e w1 ⟨h, rfl, h1, f1⟩
    have HH1 := Lib.hid h1; have HF1 := Lib.hid f1
    clear h1 f1 HN
    go_wp2_with fail
    go_loopw [6, 7] (fun s6 s7 wr => ∃ (k : Nat) (ts r : List Tm) (n : Nat), k ≤ N ∧ s7 = .int .i64 (k : Int) ∧ Hid (RowT wr s6 r) ∧ Hid (HP wr w.heap.size h ts n) ∧ Hid (Rel ts r ∧ r.length ≤ k ∧ ∀ t ∈ r, t.2 ≤ 9223372036854775807) ∧ Hid (Fx w.heap.size w wr)) (fun _ s7 _ => N - (intOf s7).toNat)
    case atStart => exact ⟨0, [], [], 0, by omega, rfl, Lib.hid (RowT.nil _), HH1, Lib.hid ⟨Rel.nil, by simp, by simp⟩, HF1⟩
    case round =>
      clear HH1 HF1
      obtain ⟨k, ts, r, n, hk, rfl, hrow, hh, hr, hf⟩ := hrel
      by_cases hlt : k < N
      · have hin1 : (k : Int) < (len0 : Int) := by omega
        have hin2 : (k : Int) < (len1 : Int) := by omega
        have hin3 : (k : Int) < 40 := by omega
        have hrd0 := HRD.out.keep (w' := wr) (fun q hq => hf.out.bel.cell hq)
        obtain ⟨ad, x, rfl, hab, hx, c0⟩ := hrd0.num (show k < len0 by omega)
        have hrd1 := HRD2.out.keep (w' := wr) (fun q hq => hf.out.bel.cell hq)
        obtain ⟨ad1, y, rfl, hab1, hy, d0⟩ := hrd1.num (show k < len1 by omega)
        have hyb := HMB.out y (List.mem_of_getElem? hy)
        have hst := set_hp x y (w := wr.drew) (hh.out.drewN 1) hf.out.bel.size hr.out.1 (by rw [hr.out.1.perm.length_eq]; have := hr.out.2.1; omega)
        have hsr := fun (W : World) (v : Value) (hx : RowT W v r) => set_r x y hx (by have := hr.out.2.1; omega)
        have HYB := Lib.hid hyb; have HST := Lib.hid hst; have HSR := Lib.hid hsr
        have hsz := hf.out.bel.size
        have HAB := Lib.hid (show (ad.add k).block < w.heap.size by rw [block_of_add]; exact hab)
        have HAB1 := Lib.hid (show (ad1.add k).block < w.heap.size by rw [block_of_add]; exact hab1)
        clear hst hsr hrd0 hrd1 hx hy hyb
        go_wp2_with fail
        go_region_held3 (fun w' => w'.cell? (ad.add k) = some (.int .i64 x) ∧ w'.cell? (ad1.add k) = some (.int .i64 y))
          (first | with_reducible exact ⟨c0, d0⟩ | with_reducible exact ⟨e0, e1⟩ | go_keep)
          (first
            | (go_simp; go_at_call 20; (with_reducible refine HST.out.mono ?_); rintro e w3 ⟨rfl, ts', n', h3, r3, f3, _⟩; have e0 := (f3.bel.cell HAB.out).trans c0; have e1 := (f3.bel.cell HAB1.out).trans d0)
            | fail)
        have hsr3 := HSR.out w3.drew _ ((show RowT wr.drew _ r from hrow.out).fx f3.drew)
        have HSR3 := Lib.hid hsr3; have HH3 := Lib.hid h3; have HR3 := Lib.hid r3; have HF3 := Lib.hid ((hf.out.drewN 1).trans f3)
        clear hsr3 h3 r3 f3 HST c0 d0
        go_wp2_with fail
        go_cut [8] (fun s8 wx => RowT wx s8 (setR r x y) ∧ Below w3.heap.size w3 wx)
        case first =>
          go_region_held3 (fun w' => w'.cell? (ad.add k) = some (.int .i64 x) ∧ w'.cell? (ad1.add k) = some (.int .i64 y))
            (first | with_reducible exact ⟨e0, e1⟩ | with_reducible exact ⟨g0, g1⟩ | go_keep)
            (first
              | (go_simp; go_at_call 21; (with_reducible refine HSR3.out.mono ?_); rintro e w4 ⟨v4, rfl, ho4, hb4⟩; have g0 := (hb4.cell (p := ad.add k) (Nat.lt_of_lt_of_le HAB.out HF3.out.bel.size)).trans e0; have g1 := (hb4.cell (p := ad1.add k) (Nat.lt_of_lt_of_le HAB1.out HF3.out.bel.size)).trans e1)
              | fail)
          all_goals
            go_wp2_with fail
            go_meet
            exact ⟨RowT.of_own ho4, ((Below.refl w3.heap.size w3).drew.trans hb4)⟩
        case rest =>
          obtain ⟨row4, hb4⟩ := hcut
          have HH4 := Lib.hid (HH3.out.below hb4 (Nat.le_refl _)); have ROW4 := Lib.hid row4
          have HR4 := Lib.hid (show Rel ts' (setR r x y) ∧ (setR r x y).length ≤ k + 1 ∧ ∀ t ∈ setR r x y, t.2 ≤ 9223372036854775807 from ⟨HR3.out, by have := setR_len r x y; have := cancelR_len r x; have := hr.out.2.1; omega, fun t ht => by
            rcases mem_setR.1 ht with rfl | ⟨h1, _⟩
            · exact HYB.out.2
            · exact hr.out.2.2 t h1⟩)
          have HF4 := Lib.hid (HF3.out.trans (Fx.of_below hb4 HF3.out.bel.size (Nat.le_refl _)))
          clear row4 hb4 HSR3 e0 e1
          go_wp2_with fail
          have hk1 : k + 1 ≤ N := by omega
          refine ⟨⟨k + 1, ts', setR r x y, n', hk1, by go_num, ROW4, HH4, HR4, HF4⟩, ?_⟩
          clear HH4 HR4 HF4 ROW4 hh hr hf hrow HH3 HR3 HF3 HSR HYB HAB HAB1
          simp only [intOf]
          omega
      · have hkN : k = N := by omega
        subst hkN
        have hout1 : (k : Int) < (len0 : Int) := by omega
        have hout2 : (k : Int) < (len1 : Int) := by omega
        have hout3 : ¬ (k : Int) < 40 := by omega
        have hr40 : r.length ≤ 40 := by have := hr.out.2.1; omega
        have hli := list_hp hh.out hr.out.1 (by rw [hr.out.1.perm.length_eq]; omega)
        obtain ⟨A6, c6, rfl, hc6⟩ := hrow.out.len
        obtain ⟨L, hL⟩ : ∃ L, L = r.map (·.1) := ⟨_, rfl⟩
        rw [← hL] at hli
        obtain ⟨m6, hm6⟩ : ∃ m, r.length = m := ⟨_, rfl⟩
        have hLm : L.length = m6 := by rw [hL, List.length_map, hm6]
        have HLI := Lib.hid hli; have HM6 := Lib.hid hm6; have HLm := Lib.hid hLm; have HL := Lib.hid hL
        rw [hm6] at hc6 hr40 ⊢
        clear hli hm6 hLm hL
        go_wp2_with fail
        refine HLI.out.mono ?_
        rintro e w3 ⟨v3, rfl, ho3, hb3⟩
        obtain ⟨A3, c3, rfl, hac3, hrl3⟩ := ho3.slice
        rw [HLm.out] at hac3 hrl3 ⊢
        have HO3 := Lib.hid ho3; have HRL3 := Lib.hid hrl3
        have HH3 := Lib.hid (hh.out.below hb3 (Nat.le_refl _)); have ROW3 := Lib.hid (hrow.out.below hb3 (Nat.le_refl _)); have HF3 := Lib.hid (hf.out.trans (Fx.of_below hb3 hf.out.bel.size (Nat.le_refl _)))
        have HR3 := Lib.hid hr.out.1; have HMX := Lib.hid hr.out.2.2
        clear ho3 hrl3 hb3 HLI hh hrow hf hr
        go_wp2_with fail
        go_loopw [11] (fun s11 wq => ∃ (i d : Nat), i ≤ m6 ∧ s11 = .int .i64 (i : Int) ∧ wq = w3.drewN d) (fun s11 _ => m6 - (intOf s11).toNat)
        case atStart => exact ⟨0, 0, by omega, rfl, rfl⟩
        case round =>
          obtain ⟨i, d, hi, rfl, rfl⟩ := hrel
          by_cases hlti : i < m6
          · have hlti' : (i : Int) < (m6 : Int) := by omega
            obtain ⟨ad5, x, rfl, hab5, hx, c5⟩ := HRL3.out.num hlti
            obtain ⟨g, o, c', hv, _, hg, x0, x1⟩ := ROW3.out.cells (i := i) (by rw [HM6.out]; exact hlti)
            injection hv with e1 e2 e3
            subst e1 e3
            have hgx : (gt r i).1 = x := by
              rw [HL.out, List.getElem?_map, gt_some (by rw [HM6.out]; exact hlti)] at hx
              simpa using hx
            obtain ⟨b, hb⟩ : ∃ b, b = (gt r i).2 := ⟨_, rfl⟩
            rw [hgx] at x0
            rw [← hb] at x1
            have hat := at_hp x (HH3.out.drewN d) HR3.out (by rw [HR3.out.perm.length_eq, HM6.out]; omega)
            have hmem : (x, b) ∈ r := by
              have h5 := List.mem_of_getElem? (gt_some (show i < r.length by rw [HM6.out]; exact hlti))
              have h6 : gt r i = (x, b) := by rw [hb, ← hgx]
              rw [h6] at h5
              exact h5
            rw [atR_mem (srt_of HR3.out) hmem] at hat
            have HAT := Lib.hid hat
            have c5d : (w3.drewN d).cell? (ad5.add i) = some (.int .i64 x) := c5
            clear hat hmem hx hgx hb c5
            go_wp2_with fail
            refine HAT.out.mono ?_
            rintro e w5 ⟨rfl, q, rfl⟩
            have c6d : ((w3.drewN d).drewN q).cell? (ad5.add i) = some (.int .i64 x) := c5d
            have x0d : ((w3.drewN d).drewN q).cell? ⟨g, o + i * 2, none⟩ = some (.int .i64 x) := x0
            have x1d : ((w3.drewN d).drewN q).cell? ⟨g, o + i * 2 + 1, none⟩ = some (.int .i64 b) := x1
            have hWq : ∃ z, (w3.drewN d).drewN q = w3.drewN z := ⟨d + q, by rw [World.drewN_drewN]⟩
            obtain ⟨z, hz⟩ := hWq
            rw [hz] at c6d x0d x1d ⊢
            obtain ⟨wz, hwz⟩ : ∃ wz, w3.drewN z = wz := ⟨_, rfl⟩
            rw [hwz] at c6d x0d x1d ⊢
            have HWZ := Lib.hid hwz
            clear c5d x0 x1 HAT hz hwz
            go_wp2_with fail
            go_region_held3 (fun w' => w'.cell? (ad5.add i) = some (.int .i64 x) ∧ w'.cell? ⟨g, o + i * 2, none⟩ = some (.int .i64 x) ∧ w'.cell? ⟨g, o + i * 2 + 1, none⟩ = some (.int .i64 b)) (first | with_reducible exact ⟨c6d, x0d, x1d⟩ | go_keep) (fail)
            go_wp2_with fail
            have hi1 : i + 1 ≤ m6 := by omega
            refine ⟨⟨i + 1, z + 1, hi1, by go_num, by rw [← HWZ.out]; rfl⟩, ?_⟩
            clear HO3 HRL3 HH3 ROW3 HF3 HR3 HMX HL HLm
            simp only [intOf]
            omega
          · have hiN : i = m6 := by omega
            subst hiN
            have hdn := dueN_all HMX.out
            have hdu := due_hp 9223372036854775807 (HH3.out.drewN d) HF3.out.bel.size HR3.out (by rw [HR3.out.perm.length_eq, HM6.out]; omega)
            rw [hdn, List.take_length, List.drop_length, ← HL.out] at hdu
            have HDU := Lib.hid hdu
            clear hdn hdu
            go_wp2_with fail
            refine HDU.out.mono ?_
            rintro e w4 ⟨v4, rfl, ho4, ts4, n4, h4, r4, f4, _⟩
            have ht4 : ts4 = [] := List.eq_nil_of_length_eq_zero (by rw [r4.perm.length_eq]; rfl)
            subst ht4
            have hsm := same_own ho4 (f4.own (HO3.out.drewN d) intT_ne.1 intT_ne.2) (by rw [HLm.out]; omega)
            rw [HLm.out] at hsm
            have hl4 := fun q => len_hp (h4.drewN q)
            have HSM := Lib.hid hsm; have HL4 := Lib.hid hl4; have HF4 := Lib.hid ((HF3.out.drewN d).trans f4)
            clear hsm hl4 ho4 h4 r4 f4 HDU
            go_wp2_with fail
            refine HSM.out.mono ?_
            rintro e w5 ⟨rfl, q, rfl⟩
            go_wp2_with fail
            refine (HL4.out q).mono ?_
            rintro e w6 ⟨rfl, rfl⟩
            go_wp2_with fail
            refine (HLV.out _).mono ?_
            rintro e w7 ⟨rfl, hb7⟩
            have HB7 := Lib.hid hb7
            clear hb7
            go_wp2_with fail
            go_ret
            exact ⟨rfl, (HF4.out.drewN q).bel.trans (HB7.out.mono (Nat.le_trans HF4.out.bel.size (Nat.le_refl _)))⟩
  · go_enter Try.func6, Try.ntmps6
    go_wp2_with fail
    refine HN.out.mono ?_
    rintro e w1 ⟨h, rfl, h1, f1⟩
    have HH1 := Lib.hid h1; have HF1 := Lib.hid f1
    clear h1 f1 HN
    go_wp2_with fail
    go_loopw [6, 7] (fun s6 s7 wr => ∃ (k : Nat) (ts r : List Tm) (n : Nat), k ≤ N ∧ s7 = .int .i64 (k : Int) ∧ Hid (RowT wr s6 r) ∧ Hid (HP wr w.heap.size h ts n) ∧ Hid (Rel ts r ∧ r.length ≤ k ∧ ∀ t ∈ r, t.2 ≤ 9223372036854775807) ∧ Hid (Fx w.heap.size w wr)) (fun _ s7 _ => N - (intOf s7).toNat)
    case atStart => exact ⟨0, [], [], 0, by omega, rfl, Lib.hid (RowT.nil _), HH1, Lib.hid ⟨Rel.nil, by simp, by simp⟩, HF1⟩
    case round =>
      clear HH1 HF1
      obtain ⟨k, ts, r, n, hk, rfl, hrow, hh, hr, hf⟩ := hrel
      by_cases hlt : k < N
      · have hin1 : (k : Int) < (len0 : Int) := by omega
        have hin2 : (k : Int) < (len1 : Int) := by omega
        have hin3 : (k : Int) < 40 := by omega
        have hrd0 := HRD.out.keep (w' := wr) (fun q hq => hf.out.bel.cell hq)
        obtain ⟨ad, x, rfl, hab, hx, c0⟩ := hrd0.num (show k < len0 by omega)
        have hrd1 := HRD2.out.keep (w' := wr) (fun q hq => hf.out.bel.cell hq)
        obtain ⟨ad1, y, rfl, hab1, hy, d0⟩ := hrd1.num (show k < len1 by omega)
        have hyb := HMB.out y (List.mem_of_getElem? hy)
        have hst := set_hp x y (w := wr.drew) (hh.out.drewN 1) hf.out.bel.size hr.out.1 (by rw [hr.out.1.perm.length_eq]; have := hr.out.2.1; omega)
        have hsr := fun (W : World) (v : Value) (hx : RowT W v r) => set_r x y hx (by have := hr.out.2.1; omega)
        have HYB := Lib.hid hyb; have HST := Lib.hid hst; have HSR := Lib.hid hsr
        have hsz := hf.out.bel.size
        have HAB := Lib.hid (show (ad.add k).block < w.heap.size by rw [block_of_add]; exact hab)
        have HAB1 := Lib.hid (show (ad1.add k).block < w.heap.size by rw [block_of_add]; exact hab1)
        clear hst hsr hrd0 hrd1 hx hy hyb
        go_wp2_with fail
        go_region_held3 (fun w' => w'.cell? (ad.add k) = some (.int .i64 x) ∧ w'.cell? (ad1.add k) = some (.int .i64 y))
          (first | with_reducible exact ⟨c0, d0⟩ | with_reducible exact ⟨e0, e1⟩ | go_keep)
          (first
            | (go_simp; go_at_call 20; (with_reducible refine HST.out.mono ?_); rintro e w3 ⟨rfl, ts', n', h3, r3, f3, _⟩; have e0 := (f3.bel.cell HAB.out).trans c0; have e1 := (f3.bel.cell HAB1.out).trans d0)
            | fail)
        have hsr3 := HSR.out w3.drew _ ((show RowT wr.drew _ r from hrow.out).fx f3.drew)
        have HSR3 := Lib.hid hsr3; have HH3 := Lib.hid h3; have HR3 := Lib.hid r3; have HF3 := Lib.hid ((hf.out.drewN 1).trans f3)
        clear hsr3 h3 r3 f3 HST c0 d0
        go_wp2_with fail
        go_cut [8] (fun s8 wx => RowT wx s8 (setR r x y) ∧ Below w3.heap.size w3 wx)
        case first =>
          go_region_held3 (fun w' => w'.cell? (ad.add k) = some (.int .i64 x) ∧ w'.cell? (ad1.add k) = some (.int .i64 y))
            (first | with_reducible exact ⟨e0, e1⟩ | with_reducible exact ⟨g0, g1⟩ | go_keep)
            (first
              | (go_simp; go_at_call 21; (with_reducible refine HSR3.out.mono ?_); rintro e w4 ⟨v4, rfl, ho4, hb4⟩; have g0 := (hb4.cell (p := ad.add k) (Nat.lt_of_lt_of_le HAB.out HF3.out.bel.size)).trans e0; have g1 := (hb4.cell (p := ad1.add k) (Nat.lt_of_lt_of_le HAB1.out HF3.out.bel.size)).trans e1)
              | fail)
          all_goals
            go_wp2_with fail
            go_meet
            exact ⟨RowT.of_own ho4, ((Below.refl w3.heap.size w3).drew.trans hb4)⟩
        case rest =>
          obtain ⟨row4, hb4⟩ := hcut
          have HH4 := Lib.hid (HH3.out.below hb4 (Nat.le_refl _)); have ROW4 := Lib.hid row4
          have HR4 := Lib.hid (show Rel ts' (setR r x y) ∧ (setR r x y).length ≤ k + 1 ∧ ∀ t ∈ setR r x y, t.2 ≤ 9223372036854775807 from ⟨HR3.out, by have := setR_len r x y; have := cancelR_len r x; have := hr.out.2.1; omega, fun t ht => by
            rcases mem_setR.1 ht with rfl | ⟨h1, _⟩
            · exact HYB.out.2
            · exact hr.out.2.2 t h1⟩)
          have HF4 := Lib.hid (HF3.out.trans (Fx.of_below hb4 HF3.out.bel.size (Nat.le_refl _)))
          clear row4 hb4 HSR3 e0 e1
          go_wp2_with fail
          have hk1 : k + 1 ≤ N := by omega
          refine ⟨⟨k + 1, ts', setR r x y, n', hk1, by go_num, ROW4, HH4, HR4, HF4⟩, ?_⟩
          clear HH4 HR4 HF4 ROW4 hh hr hf hrow HH3 HR3 HF3 HSR HYB HAB HAB1
          simp only [intOf]
          omega
      · have hkN : k = N := by omega
        subst hkN
        have hout1 : (k : Int) < (len0 : Int) := by omega
        have hout2 : ¬ (k : Int) < (len1 : Int) := by omega
        have hr40 : r.length ≤ 40 := by have := hr.out.2.1; omega
        have hli := list_hp hh.out hr.out.1 (by rw [hr.out.1.perm.length_eq]; omega)
        obtain ⟨A6, c6, rfl, hc6⟩ := hrow.out.len
        obtain ⟨L, hL⟩ : ∃ L, L = r.map (·.1) := ⟨_, rfl⟩
        rw [← hL] at hli
        obtain ⟨m6, hm6⟩ : ∃ m, r.length = m := ⟨_, rfl⟩
        have hLm : L.length = m6 := by rw [hL, List.length_map, hm6]
        have HLI := Lib.hid hli; have HM6 := Lib.hid hm6; have HLm := Lib.hid hLm; have HL := Lib.hid hL
        rw [hm6] at hc6 hr40 ⊢
        clear hli hm6 hLm hL
        go_wp2_with fail
        refine HLI.out.mono ?_
        rintro e w3 ⟨v3, rfl, ho3, hb3⟩
        obtain ⟨A3, c3, rfl, hac3, hrl3⟩ := ho3.slice
        rw [HLm.out] at hac3 hrl3 ⊢
        have HO3 := Lib.hid ho3; have HRL3 := Lib.hid hrl3
        have HH3 := Lib.hid (hh.out.below hb3 (Nat.le_refl _)); have ROW3 := Lib.hid (hrow.out.below hb3 (Nat.le_refl _)); have HF3 := Lib.hid (hf.out.trans (Fx.of_below hb3 hf.out.bel.size (Nat.le_refl _)))
        have HR3 := Lib.hid hr.out.1; have HMX := Lib.hid hr.out.2.2
        clear ho3 hrl3 hb3 HLI hh hrow hf hr
        go_wp2_with fail
        go_loopw [11] (fun s11 wq => ∃ (i d : Nat), i ≤ m6 ∧ s11 = .int .i64 (i : Int) ∧ wq = w3.drewN d) (fun s11 _ => m6 - (intOf s11).toNat)
        case atStart => exact ⟨0, 0, by omega, rfl, rfl⟩
        case round =>
          obtain ⟨i, d, hi, rfl, rfl⟩ := hrel
          by_cases hlti : i < m6
          · have hlti' : (i : Int) < (m6 : Int) := by omega
            obtain ⟨ad5, x, rfl, hab5, hx, c5⟩ := HRL3.out.num hlti
            obtain ⟨g, o, c', hv, _, hg, x0, x1⟩ := ROW3.out.cells (i := i) (by rw [HM6.out]; exact hlti)
            injection hv with e1 e2 e3
            subst e1 e3
            have hgx : (gt r i).1 = x := by
              rw [HL.out, List.getElem?_map, gt_some (by rw [HM6.out]; exact hlti)] at hx
              simpa using hx
            obtain ⟨b, hb⟩ : ∃ b, b = (gt r i).2 := ⟨_, rfl⟩
            rw [hgx] at x0
            rw [← hb] at x1
            have hat := at_hp x (HH3.out.drewN d) HR3.out (by rw [HR3.out.perm.length_eq, HM6.out]; omega)
            have hmem : (x, b) ∈ r := by
              have h5 := List.mem_of_getElem? (gt_some (show i < r.length by rw [HM6.out]; exact hlti))
              have h6 : gt r i = (x, b) := by rw [hb, ← hgx]
              rw [h6] at h5
              exact h5
            rw [atR_mem (srt_of HR3.out) hmem] at hat
            have HAT := Lib.hid hat
            have c5d : (w3.drewN d).cell? (ad5.add i) = some (.int .i64 x) := c5
            clear hat hmem hx hgx hb c5
            go_wp2_with fail
            refine HAT.out.mono ?_
            rintro e w5 ⟨rfl, q, rfl⟩
            have c6d : ((w3.drewN d).drewN q).cell? (ad5.add i) = some (.int .i64 x) := c5d
            have x0d : ((w3.drewN d).drewN q).cell? ⟨g, o + i * 2, none⟩ = some (.int .i64 x) := x0
            have x1d : ((w3.drewN d).drewN q).cell? ⟨g, o + i * 2 + 1, none⟩ = some (.int .i64 b) := x1
            have hWq : ∃ z, (w3.drewN d).drewN q = w3.drewN z := ⟨d + q, by rw [World.drewN_drewN]⟩
            obtain ⟨z, hz⟩ := hWq
            rw [hz] at c6d x0d x1d ⊢
            obtain ⟨wz, hwz⟩ : ∃ wz, w3.drewN z = wz := ⟨_, rfl⟩
            rw [hwz] at c6d x0d x1d ⊢
            have HWZ := Lib.hid hwz
            clear c5d x0 x1 HAT hz hwz
            go_wp2_with fail
            go_region_held3 (fun w' => w'.cell? (ad5.add i) = some (.int .i64 x) ∧ w'.cell? ⟨g, o + i * 2, none⟩ = some (.int .i64 x) ∧ w'.cell? ⟨g, o + i * 2 + 1, none⟩ = some (.int .i64 b)) (first | with_reducible exact ⟨c6d, x0d, x1d⟩ | go_keep) (fail)
            go_wp2_with fail
            have hi1 : i + 1 ≤ m6 := by omega
            refine ⟨⟨i + 1, z + 1, hi1, by go_num, by rw [← HWZ.out]; rfl⟩, ?_⟩
            clear HO3 HRL3 HH3 ROW3 HF3 HR3 HMX HL HLm
            simp only [intOf]
            omega
          · have hiN : i = m6 := by omega
            subst hiN
            have hdn := dueN_all HMX.out
            have hdu := due_hp 9223372036854775807 (HH3.out.drewN d) HF3.out.bel.size HR3.out (by rw [HR3.out.perm.length_eq, HM6.out]; omega)
            rw [hdn, List.take_length, List.drop_length, ← HL.out] at hdu
            have HDU := Lib.hid hdu
            clear hdn hdu
            go_wp2_with fail
            refine HDU.out.mono ?_
            rintro e w4 ⟨v4, rfl, ho4, ts4, n4, h4, r4, f4, _⟩
            have ht4 : ts4 = [] := List.eq_nil_of_length_eq_zero (by rw [r4.perm.length_eq]; rfl)
            subst ht4
            have hsm := same_own ho4 (f4.own (HO3.out.drewN d) intT_ne.1 intT_ne.2) (by rw [HLm.out]; omega)
            rw [HLm.out] at hsm
            have hl4 := fun q => len_hp (h4.drewN q)
            have HSM := Lib.hid hsm; have HL4 := Lib.hid hl4; have HF4 := Lib.hid ((HF3.out.drewN d).trans f4)
            clear hsm hl4 ho4 h4 r4 f4 HDU
            go_wp2_with fail
            refine HSM.out.mono ?_
            rintro e w5 ⟨rfl, q, rfl⟩
            go_wp2_with fail
            refine (HL4.out q).mono ?_
            rintro e w6 ⟨rfl, rfl⟩
            go_wp2_with fail
            refine (HLV.out _).mono ?_
            rintro e w7 ⟨rfl, hb7⟩
            have HB7 := Lib.hid hb7
            clear hb7
            go_wp2_with fail
            go_ret
            exact ⟨rfl, (HF4.out.drewN q).bel.trans (HB7.out.mono (Nat.le_trans HF4.out.bel.size (Nat.le_refl _)))⟩
  · go_enter Try.func6, Try.ntmps6
    go_wp2_with fail
    refine HN.out.mono ?_
    rintro e w1 ⟨h, rfl, h1, f1⟩
    have HH1 := Lib.hid h1; have HF1 := Lib.hid f1
    clear h1 f1 HN
    go_wp2_with fail
    go_loopw [6, 7] (fun s6 s7 wr => ∃ (k : Nat) (ts r : List Tm) (n : Nat), k ≤ N ∧ s7 = .int .i64 (k : Int) ∧ Hid (RowT wr s6 r) ∧ Hid (HP wr w.heap.size h ts n) ∧ Hid (Rel ts r ∧ r.length ≤ k ∧ ∀ t ∈ r, t.2 ≤ 9223372036854775807) ∧ Hid (Fx w.heap.size w wr)) (fun _ s7 _ => N - (intOf s7).toNat)
    case atStart => exact ⟨0, [], [], 0, by omega, rfl, Lib.hid (RowT.nil _), HH1, Lib.hid ⟨Rel.nil, by simp, by simp⟩, HF1⟩
    case round =>
      clear HH1 HF1
      obtain ⟨k, ts, r, n, hk, rfl, hrow, hh, hr, hf⟩ := hrel
      by_cases hlt : k < N
      · have hin1 : (k : Int) < (len0 : Int) := by omega
        have hin2 : (k : Int) < (len1 : Int) := by omega
        have hin3 : (k : Int) < 40 := by omega
        have hrd0 := HRD.out.keep (w' := wr) (fun q hq => hf.out.bel.cell hq)
        obtain ⟨ad, x, rfl, hab, hx, c0⟩ := hrd0.num (show k < len0 by omega)
        have hrd1 := HRD2.out.keep (w' := wr) (fun q hq => hf.out.bel.cell hq)
        obtain ⟨ad1, y, rfl, hab1, hy, d0⟩ := hrd1.num (show k < len1 by omega)
        have hyb := HMB.out y (List.mem_of_getElem? hy)
        have hst := set_hp x y (w := wr.drew) (hh.out.drewN 1) hf.out.bel.size hr.out.1 (by rw [hr.out.1.perm.length_eq]; have := hr.out.2.1; omega)
        have hsr := fun (W : World) (v : Value) (hx : RowT W v r) => set_r x y hx (by have := hr.out.2.1; omega)
        have HYB := Lib.hid hyb; have HST := Lib.hid hst; have HSR := Lib.hid hsr
        have hsz := hf.out.bel.size
        have HAB := Lib.hid (show (ad.add k).block < w.heap.size by rw [block_of_add]; exact hab)
        have HAB1 := Lib.hid (show (ad1.add k).block < w.heap.size by rw [block_of_add]; exact hab1)
        clear hst hsr hrd0 hrd1 hx hy hyb
        go_wp2_with fail
        go_region_held3 (fun w' => w'.cell? (ad.add k) = some (.int .i64 x) ∧ w'.cell? (ad1.add k) = some (.int .i64 y))
          (first | with_reducible exact ⟨c0, d0⟩ | with_reducible exact ⟨e0, e1⟩ | go_keep)
          (first
            | (go_simp; go_at_call 20; (with_reducible refine HST.out.mono ?_); rintro e w3 ⟨rfl, ts', n', h3, r3, f3, _⟩; have e0 := (f3.bel.cell HAB.out).trans c0; have e1 := (f3.bel.cell HAB1.out).trans d0)
            | fail)
        have hsr3 := HSR.out w3.drew _ ((show RowT wr.drew _ r from hrow.out).fx f3.drew)
        have HSR3 := Lib.hid hsr3; have HH3 := Lib.hid h3; have HR3 := Lib.hid r3; have HF3 := Lib.hid ((hf.out.drewN 1).trans f3)
        clear hsr3 h3 r3 f3 HST c0 d0
        go_wp2_with fail
        go_cut [8] (fun s8 wx => RowT wx s8 (setR r x y) ∧ Below w3.heap.size w3 wx)
        case first =>
          go_region_held3 (fun w' => w'.cell? (ad.add k) = some (.int .i64 x) ∧ w'.cell? (ad1.add k) = some (.int .i64 y))
            (first | with_reducible exact ⟨e0, e1⟩ | with_reducible exact ⟨g0, g1⟩ | go_keep)
            (first
              | (go_simp; go_at_call 21; (with_reducible refine HSR3.out.mono ?_); rintro e w4 ⟨v4, rfl, ho4, hb4⟩; have g0 := (hb4.cell (p := ad.add k) (Nat.lt_of_lt_of_le HAB.out HF3.out.bel.size)).trans e0; have g1 := (hb4.cell (p := ad1.add k) (Nat.lt_of_lt_of_le HAB1.out HF3.out.bel.size)).trans e1)
              | fail)
          all_goals
            go_wp2_with fail
            go_meet
            exact ⟨RowT.of_own ho4, ((Below.refl w3.heap.size w3).drew.trans hb4)⟩
        case rest =>
          obtain ⟨row4, hb4⟩ := hcut
          have HH4 := Lib.hid (HH3.out.below hb4 (Nat.le_refl _)); have ROW4 := Lib.hid row4
          have HR4 := Lib.hid (show Rel ts' (setR r x y) ∧ (setR r x y).length ≤ k + 1 ∧ ∀ t ∈ setR r x y, t.2 ≤ 9223372036854775807 from ⟨HR3.out, by have := setR_len r x y; have := cancelR_len r x; have := hr.out.2.1; omega, fun t ht => by
            rcases mem_setR.1 ht with rfl | ⟨h1, _⟩
            · exact HYB.out.2
            · exact hr.out.2.2 t h1⟩)
          have HF4 := Lib.hid (HF3.out.trans (Fx.of_below hb4 HF3.out.bel.size (Nat.le_refl _)))
          clear row4 hb4 HSR3 e0 e1
          go_wp2_with fail
          have hk1 : k + 1 ≤ N := by omega
          refine ⟨⟨k + 1, ts', setR r x y, n', hk1, by go_num, ROW4, HH4, HR4, HF4⟩, ?_⟩
          clear HH4 HR4 HF4 ROW4 hh hr hf hrow HH3 HR3 HF3 HSR HYB HAB HAB1
          simp only [intOf]
          omega
      · have hkN : k = N := by omega
        subst hkN
        have hout1 : ¬ (k : Int) < (len0 : Int) := by omega
        have hr40 : r.length ≤ 40 := by have := hr.out.2.1; omega
        have hli := list_hp hh.out hr.out.1 (by rw [hr.out.1.perm.length_eq]; omega)
        obtain ⟨A6, c6, rfl, hc6⟩ := hrow.out.len
        obtain ⟨L, hL⟩ : ∃ L, L = r.map (·.1) := ⟨_, rfl⟩
        rw [← hL] at hli
        obtain ⟨m6, hm6⟩ : ∃ m, r.length = m := ⟨_, rfl⟩
        have hLm : L.length = m6 := by rw [hL, List.length_map, hm6]
        have HLI := Lib.hid hli; have HM6 := Lib.hid hm6; have HLm := Lib.hid hLm; have HL := Lib.hid hL
        rw [hm6] at hc6 hr40 ⊢
        clear hli hm6 hLm hL
        go_wp2_with fail
        refine HLI.out.mono ?_
        rintro e w3 ⟨v3, rfl, ho3, hb3⟩
        obtain ⟨A3, c3, rfl, hac3, hrl3⟩ := ho3.slice
        rw [HLm.out] at hac3 hrl3 ⊢
        have HO3 := Lib.hid ho3; have HRL3 := Lib.hid hrl3
        have HH3 := Lib.hid (hh.out.below hb3 (Nat.le_refl _)); have ROW3 := Lib.hid (hrow.out.below hb3 (Nat.le_refl _)); have HF3 := Lib.hid (hf.out.trans (Fx.of_below hb3 hf.out.bel.size (Nat.le_refl _)))
        have HR3 := Lib.hid hr.out.1; have HMX := Lib.hid hr.out.2.2
        clear ho3 hrl3 hb3 HLI hh hrow hf hr
        go_wp2_with fail
        go_loopw [11] (fun s11 wq => ∃ (i d : Nat), i ≤ m6 ∧ s11 = .int .i64 (i : Int) ∧ wq = w3.drewN d) (fun s11 _ => m6 - (intOf s11).toNat)
        case atStart => exact ⟨0, 0, by omega, rfl, rfl⟩
        case round =>
          obtain ⟨i, d, hi, rfl, rfl⟩ := hrel
          by_cases hlti : i < m6
          · have hlti' : (i : Int) < (m6 : Int) := by omega
            obtain ⟨ad5, x, rfl, hab5, hx, c5⟩ := HRL3.out.num hlti
            obtain ⟨g, o, c', hv, _, hg, x0, x1⟩ := ROW3.out.cells (i := i) (by rw [HM6.out]; exact hlti)
            injection hv with e1 e2 e3
            subst e1 e3
            have hgx : (gt r i).1 = x := by
              rw [HL.out, List.getElem?_map, gt_some (by rw [HM6.out]; exact hlti)] at hx
              simpa using hx
            obtain ⟨b, hb⟩ : ∃ b, b = (gt r i).2 := ⟨_, rfl⟩
            rw [hgx] at x0
            rw [← hb] at x1
            have hat := at_hp x (HH3.out.drewN d) HR3.out (by rw [HR3.out.perm.length_eq, HM6.out]; omega)
            have hmem : (x, b) ∈ r := by
              have h5 := List.mem_of_getElem? (gt_some (show i < r.length by rw [HM6.out]; exact hlti))
              have h6 : gt r i = (x, b) := by rw [hb, ← hgx]
              rw [h6] at h5
              exact h5
            rw [atR_mem (srt_of HR3.out) hmem] at hat
            have HAT := Lib.hid hat
            have c5d : (w3.drewN d).cell? (ad5.add i) = some (.int .i64 x) := c5
            clear hat hmem hx hgx hb c5
            go_wp2_with fail
            refine HAT.out.mono ?_
            rintro e w5 ⟨rfl, q, rfl⟩
            have c6d : ((w3.drewN d).drewN q).cell? (ad5.add i) = some (.int .i64 x) := c5d
            have x0d : ((w3.drewN d).drewN q).cell? ⟨g, o + i * 2, none⟩ = some (.int .i64 x) := x0
            have x1d : ((w3.drewN d).drewN q).cell? ⟨g, o + i * 2 + 1, none⟩ = some (.int .i64 b) := x1
            have hWq : ∃ z, (w3.drewN d).drewN q = w3.drewN z := ⟨d + q, by rw [World.drewN_drewN]⟩
            obtain ⟨z, hz⟩ := hWq
            rw [hz] at c6d x0d x1d ⊢
            obtain ⟨wz, hwz⟩ : ∃ wz, w3.drewN z = wz := ⟨_, rfl⟩
            rw [hwz] at c6d x0d x1d ⊢
            have HWZ := Lib.hid hwz
            clear c5d x0 x1 HAT hz hwz
            go_wp2_with fail
            go_region_held3 (fun w' => w'.cell? (ad5.add i) = some (.int .i64 x) ∧ w'.cell? ⟨g, o + i * 2, none⟩ = some (.int .i64 x) ∧ w'.cell? ⟨g, o + i * 2 + 1, none⟩ = some (.int .i64 b)) (first | with_reducible exact ⟨c6d, x0d, x1d⟩ | go_keep) (fail)
            go_wp2_with fail
            have hi1 : i + 1 ≤ m6 := by omega
            refine ⟨⟨i + 1, z + 1, hi1, by go_num, by rw [← HWZ.out]; rfl⟩, ?_⟩
            clear HO3 HRL3 HH3 ROW3 HF3 HR3 HMX HL HLm
            simp only [intOf]
            omega
          · have hiN : i = m6 := by omega
            subst hiN
            have hdn := dueN_all HMX.out
            have hdu := due_hp 9223372036854775807 (HH3.out.drewN d) HF3.out.bel.size HR3.out (by rw [HR3.out.perm.length_eq, HM6.out]; omega)
            rw [hdn, List.take_length, List.drop_length, ← HL.out] at hdu
            have HDU := Lib.hid hdu
            clear hdn hdu
            go_wp2_with fail
            refine HDU.out.mono ?_
            rintro e w4 ⟨v4, rfl, ho4, ts4, n4, h4, r4, f4, _⟩
            have ht4 : ts4 = [] := List.eq_nil_of_length_eq_zero (by rw [r4.perm.length_eq]; rfl)
            subst ht4
            have hsm := same_own ho4 (f4.own (HO3.out.drewN d) intT_ne.1 intT_ne.2) (by rw [HLm.out]; omega)
            rw [HLm.out] at hsm
            have hl4 := fun q => len_hp (h4.drewN q)
            have HSM := Lib.hid hsm; have HL4 := Lib.hid hl4; have HF4 := Lib.hid ((HF3.out.drewN d).trans f4)
            clear hsm hl4 ho4 h4 r4 f4 HDU
            go_wp2_with fail
            refine HSM.out.mono ?_
            rintro e w5 ⟨rfl, q, rfl⟩
            go_wp2_with fail
            refine (HL4.out q).mono ?_
            rintro e w6 ⟨rfl, rfl⟩
            go_wp2_with fail
            refine (HLV.out _).mono ?_
            rintro e w7 ⟨rfl, hb7⟩
            have HB7 := Lib.hid hb7
            clear hb7
            go_wp2_with fail
            go_ret
            exact ⟨rfl, (HF4.out.drewN q).bel.trans (HB7.out.mono (Nat.le_trans HF4.out.bel.size (Nat.le_refl _)))⟩
end Go.Proofs.Ytglgficmfpecgaa.heapRow
