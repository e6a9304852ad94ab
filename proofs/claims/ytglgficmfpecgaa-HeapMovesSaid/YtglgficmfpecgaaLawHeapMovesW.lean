
/-
  The walk of HeapMoves.
-/
import Derived.Test.YtglgficmfpecgaaRows
import Derived.WalkKit
import Derived.ProofKit
import Derived.OpenShut
import Derived.ShutString
import Derived.ChangeOld
import Derived.Below
import Derived.Test.YtglgficmfpecgaaHpG
import Derived.Test.YtglgficmfpecgaaRgOwn
namespace Go.Proofs.Ytglgficmfpecgaa.heapMoves
open Go.ChangeShapes Go.WideShapes Go.ChangeAt Go.RowKit Go.Proofs.Ytglgficmfpecgaa Go.Proofs.Ytglgficmfpecgaa.Plain
open Go.ChangeMaps (open_string shut_string)
set_option linter.unusedVariables false


set_option maxRecDepth 100000 in
set_option maxHeartbeats 40000000 in
theorem walk (a0 : Option Addr) (len0 cap0 : Nat) (z0 : List Int) (a1 : Option Addr) (len1 cap1 : Nat) (z1 : List Int) (w : World) (w0 : IsRow .i64 w a0 len0 cap0 z0) (w1 : IsRow .i64 w a1 len1 cap1 z1) :
    Calls Try.prog 7 #[.slice a0 len0 cap0, .slice a1 len1 cap1] w fun e w' => e = .returned (.bool true) ∧ Below w.heap.size w w' := by
  obtain ⟨l, hl, hR, hlb, hc, hn⟩ := row_int w0
  obtain ⟨m, hm, hR2, hmb, hc2, hn2⟩ := row_int w1
  have hnew := new_hp w w.heap.size (Nat.le_refl _)
  have HN := Lib.hid hnew; have HRD := Lib.hid hR; have HRD2 := Lib.hid hR2; have HLL := Lib.hid hl; have HLB := Lib.hid hlb; have HMB := Lib.hid hmb; have HML := Lib.hid hm
  have HLV := Lib.hid lives_hp
  clear hnew hR hR2 hl hlb hm hmb w0 w1
  rcases Nat.lt_or_ge 30 len0 with hbig | hsmall
  · obtain ⟨N, hN⟩ : ∃ N, N = 30 := ⟨_, rfl⟩
    have hN30 : N ≤ 30 := by omega
    have hNl : N < len0 := by omega
    go_enter Try.func7, Try.ntmps7
    go_wp2_with fail
    refine HN.out.mono ?_
    rintro e w1 ⟨h, rfl, h1, f1⟩
    have HH1 := Lib.hid h1; have HF1 := Lib.hid f1
    clear h1 f1 HN
    go_wp2_with fail
    go_loopw [7] (fun s7 wr => ∃ (k : Nat) (ts r : List Tm) (n : Nat), k ≤ N ∧ s7 = .int .i64 (k : Int) ∧ Hid (HP wr w.heap.size h ts n) ∧ Hid (Rel ts r ∧ Keyed1 l k r) ∧ Hid (Fx w.heap.size w wr)) (fun s7 _ => N - (intOf s7).toNat)
    case atStart => exact ⟨0, [], [], 0, by omega, rfl, HH1, Lib.hid ⟨Rel.nil, by simp, by simp, by simp⟩, HF1⟩
    case round =>
      clear HH1 HF1
      obtain ⟨k, ts, r, n, hk, rfl, hh, hr, hf⟩ := hrel
      by_cases hlt : k < N
      · have hin1 : (k : Int) < (len0 : Int) := by omega
        have hin2 : (k : Int) < 30 := by omega
        have hrd0 := HRD.out.keep (w' := wr) (fun q hq => hf.out.bel.cell hq)
        obtain ⟨ad, x, rfl, _, hx, c0⟩ := hrd0.num (show k < len0 by omega)
        have hst := set_hp x (k : Int) hh.out hf.out.bel.size hr.out.1 (by rw [hr.out.1.perm.length_eq]; have := hr.out.2.2.2; omega)
        have HST := Lib.hid hst; have HX := Lib.hid hx
        clear hst hx hrd0
        go_wp2_with fail
        refine HST.out.mono ?_
        rintro e w2 ⟨rfl, ts', n', h2, r2, f2, _⟩
        have HH2 := Lib.hid h2; have HR2 := Lib.hid (show Rel ts' (setR r x k) ∧ Keyed1 l (k + 1) (setR r x k) from ⟨r2, hr.out.2.step HX.out _⟩); have HF2 := Lib.hid (hf.out.trans f2)
        clear h2 r2 f2 HST c0
        go_wp2_with fail
        have hk1 : k + 1 ≤ N := by omega
        refine ⟨⟨k + 1, ts', setR r x k, n', hk1, by go_num, HH2, HR2, HF2⟩, ?_⟩
        clear HH2 HR2 HF2 hh hr hf HX
        simp only [intOf]
        omega
      · have hkN : k = N := by omega
        subst hkN
        have hout1 : (k : Int) < (len0 : Int) := by omega
        have hout2 : ¬ (k : Int) < 30 := by omega
        obtain ⟨K2, hK2⟩ : ∃ K2, K2 = Keyed2.start hr.out.2 := ⟨_, rfl⟩
        have HK2 := Lib.hid (Keyed2.start hr.out.2)
        clear hK2 K2
        have wr0 := wr
        go_wp2_with fail
        go_loopw [6, 8] (fun s6 s8 wq => ∃ (i : Nat) (ts R r : List Tm) (n : Nat), i ≤ k ∧ s8 = .int .i64 (i : Int) ∧ Hid (RowT wq s6 r) ∧ Hid (HP wq w.heap.size h ts n) ∧ Hid (Rel ts R ∧ Keyed2 l k i R r) ∧ Hid (Fx w.heap.size w wq)) (fun _ s8 _ => k - (intOf s8).toNat)
        case atStart => exact ⟨0, ts, r, [], n, by omega, rfl, Lib.hid (RowT.nil _), hh, Lib.hid ⟨hr.out.1, HK2.out⟩, hf⟩
        case round =>
          clear hh hr hf HK2
          obtain ⟨i, ts, R, r, n, hi, rfl, hrow, hh, hr, hf⟩ := hrel
          by_cases hlti : i < k
          · have hin1 : (i : Int) < (len0 : Int) := by omega
            have hin2 : (i : Int) < 30 := by omega
            have hrd0 := HRD.out.keep (w' := wr) (fun q hq => hf.out.bel.cell hq)
            obtain ⟨ad, x, rfl, hab, hx, c0⟩ := hrd0.num (show i < len0 by omega)
            have HX := Lib.hid hx
            have hhad : hasR R x = true := hr.out.2.1 x (List.mem_of_getElem? (i := i) (by rw [List.getElem?_take_of_lt hlti]; exact hx))
            have HHAD := Lib.hid hhad
            clear hrd0 hx hhad
            by_cases hi1 : i < len1
            · have hi1' : (i : Int) < (len1 : Int) := by omega
              have hrd1 := HRD2.out.keep (w' := wr) (fun q hq => hf.out.bel.cell hq)
              obtain ⟨ad1, y, rfl, _, hy, d0⟩ := hrd1.num hi1
              obtain ⟨a, haa⟩ : ∃ a, a = y.tmod 1000 := ⟨_, rfl⟩
              have hab1 : a ≤ 1000 := by rw [haa]; have := Int.tmod_lt_of_pos y (show (0 : Int) < 1000 by omega); omega
              have hmod := haa.symm
              have HAB := Lib.hid hab1
              clear hrd1 hy haa hab1
              have hset := set_hp x a hh.out hf.out.bel.size hr.out.1 (by rw [hr.out.1.perm.length_eq]; have := hr.out.2.2.2.1; omega)
              rw [HHAD.out] at hset
              have hsr := fun (W : World) (v : Value) (hx : RowT W v r) => set_r x a hx (by have := hr.out.2.2.2.2.2.2.1; omega)
              have HSET := Lib.hid hset; have HSR := Lib.hid hsr
              clear hset hsr
              go_wp2_with fail
              refine HSET.out.mono ?_
              rintro e w3 ⟨rfl, ts', n', h3, r3, f3, _⟩
              have e0 := (f3.bel.cell (by rw [block_of_add]; exact Nat.lt_of_lt_of_le hab (Nat.le_refl _))).trans c0
              have hsr3 := HSR.out w3 _ (hrow.out.fx f3)
              have HSR3 := Lib.hid hsr3; have HH3 := Lib.hid h3; have HR3 := Lib.hid r3; have HF3 := Lib.hid (hf.out.trans f3)
              clear hsr3 h3 r3 f3 HSET c0
              go_wp2_with fail
              refine HSR3.out.mono ?_
              rintro e w4 ⟨v4, rfl, ho4, hb4⟩
              have HH4 := Lib.hid (HH3.out.below hb4 (Nat.le_refl _)); have ROW4 := Lib.hid (RowT.of_own ho4)
              have HR4 := Lib.hid (show Rel ts' (setR R x a) ∧ Keyed2 l k (i + 1) (setR R x a) (setR r x a) from ⟨HR3.out, hr.out.2.step hlti HX.out HAB.out⟩)
              have HF4 := Lib.hid (HF3.out.trans (Fx.of_below hb4 HF3.out.bel.size (Nat.le_refl _)))
              clear ho4 hb4 HSR3 e0
              go_wp2_with fail
              have hi1 : i + 1 ≤ k := by omega
              refine ⟨⟨i + 1, ts', setR R x a, setR r x a, n', hi1, by go_num, ROW4, HH4, HR4, HF4⟩, ?_⟩
              clear HH4 HR4 HF4 ROW4 hh hr hf hrow HX HHAD HAB HH3 HR3 HF3 HSR
              simp only [intOf]
              omega
            · have hi1' : ¬ (i : Int) < (len1 : Int) := by omega
              obtain ⟨a, haa⟩ : ∃ a : Int, a = (i : Int) := ⟨_, rfl⟩
              have HAB : Hid (a ≤ 1000) := Lib.hid (by omega)
              subst haa
              have hset := set_hp x (i : Int) hh.out hf.out.bel.size hr.out.1 (by rw [hr.out.1.perm.length_eq]; have := hr.out.2.2.2.1; omega)
              rw [HHAD.out] at hset
              have hsr := fun (W : World) (v : Value) (hx : RowT W v r) => set_r x (i : Int) hx (by have := hr.out.2.2.2.2.2.2.1; omega)
              have HSET := Lib.hid hset; have HSR := Lib.hid hsr
              clear hset hsr
              go_wp2_with fail
              refine HSET.out.mono ?_
              rintro e w3 ⟨rfl, ts', n', h3, r3, f3, _⟩
              have e0 := (f3.bel.cell (by rw [block_of_add]; exact Nat.lt_of_lt_of_le hab (Nat.le_refl _))).trans c0
              have hsr3 := HSR.out w3 _ (hrow.out.fx f3)
              have HSR3 := Lib.hid hsr3; have HH3 := Lib.hid h3; have HR3 := Lib.hid r3; have HF3 := Lib.hid (hf.out.trans f3)
              clear hsr3 h3 r3 f3 HSET c0
              go_wp2_with fail
              refine HSR3.out.mono ?_
              rintro e w4 ⟨v4, rfl, ho4, hb4⟩
              have HH4 := Lib.hid (HH3.out.below hb4 (Nat.le_refl _)); have ROW4 := Lib.hid (RowT.of_own ho4)
              have HR4 := Lib.hid (show Rel ts' (setR R x (i : Int)) ∧ Keyed2 l k (i + 1) (setR R x (i : Int)) (setR r x (i : Int)) from ⟨HR3.out, hr.out.2.step hlti HX.out HAB.out⟩)
              have HF4 := Lib.hid (HF3.out.trans (Fx.of_below hb4 HF3.out.bel.size (Nat.le_refl _)))
              clear ho4 hb4 HSR3 e0
              go_wp2_with fail
              have hi1 : i + 1 ≤ k := by omega
              refine ⟨⟨i + 1, ts', setR R x (i : Int), setR r x (i : Int), n', hi1, by go_num, ROW4, HH4, HR4, HF4⟩, ?_⟩
              clear HH4 HR4 HF4 ROW4 hh hr hf hrow HX HHAD HAB HH3 HR3 HF3 HSR
              simp only [intOf]
              omega
          · have hiN : i = k := by omega
            subst hiN
            have hout1 : (i : Int) < (len0 : Int) := by omega
            have hout2 : ¬ (i : Int) < 30 := by omega
            have hRr := hr.out.2.same (srt_of hr.out.1)
            have hrel1 := hr.out.1
            rw [hRr] at hrel1
            have HR3 := Lib.hid (show Rel ts r ∧ r.length ≤ i ∧ ∀ t ∈ r, t.2 ≤ 1000 from ⟨hrel1, hr.out.2.2.2.2.2.2.1, hr.out.2.2.2.2.2.2.2⟩)
            clear hRr hrel1 hr
            go_wp2_with fail
            go_loopw [6, 13] (fun s6 s13 wq => ∃ (j : Nat) (ts r : List Tm) (n : Nat), j ≤ i ∧ s13 = .int .i64 (j : Int) ∧ Hid (RowT wq s6 r) ∧ Hid (HP wq w.heap.size h ts n) ∧ Hid (Rel ts r ∧ r.length ≤ i ∧ ∀ t ∈ r, t.2 ≤ 1000) ∧ Hid (Fx w.heap.size w wq)) (fun _ s13 _ => i - (intOf s13).toNat)
            case atStart => exact ⟨0, ts, r, n, by omega, rfl, hrow, hh, HR3, hf⟩
            case round =>
              clear hh hrow HR3 hf
              obtain ⟨j, ts, r, n, hj, rfl, hrow, hh, hr, hf⟩ := hrel
              by_cases hltj : j < i
              · have hin1 : (j : Int) < (len0 : Int) := by omega
                have hin2 : (j : Int) < 30 := by omega
                have hrd0 := HRD.out.keep (w' := wr) (fun q hq => hf.out.bel.cell hq)
                obtain ⟨ad, x, rfl, hab, hx, c0⟩ := hrd0.num (show j < len0 by omega)
                clear hrd0 hx
                obtain ⟨md, hmd⟩ : ∃ md, x.tmod 2 = md := ⟨_, rfl⟩
                by_cases hev : md = 0
                · subst hev
                  have hca := cancel_r x hrow.out (by have := hr.out.2.1; omega)
                  obtain ⟨q, hq⟩ : ∃ q, q = hasR r x := ⟨_, rfl⟩
                  rw [← hq] at hca
                  have HCA := Lib.hid hca; have HQ := Lib.hid hq
                  clear hca hq
                  go_wp2_with fail
                  refine HCA.out.mono ?_
                  rintro e w3 ⟨v3, rfl, ho3, hb3⟩
                  have d0 := (hb3.cell (by rw [block_of_add]; exact Nat.lt_of_lt_of_le hab hf.out.bel.size)).trans c0
                  have hcp := cancel_hp x (hh.out.below hb3 (Nat.le_refl _)) (Nat.le_trans hf.out.bel.size hb3.size) hr.out.1 (by rw [hr.out.1.perm.length_eq]; have := hr.out.2.1; omega)
                  rw [← HQ.out] at hcp
                  have HCP := Lib.hid hcp; have HO3 := Lib.hid (RowT.of_own ho3); have HF3 := Lib.hid (hf.out.trans (Fx.of_below hb3 hf.out.bel.size (Nat.le_refl _)))
                  clear hcp ho3 hb3 HCA c0
                  go_wp2_with fail
                  refine HCP.out.mono ?_
                  rintro e w4 ⟨rfl, ts', n', h4, r4, f4, _⟩
                  have HH4 := Lib.hid h4; have HR4 := Lib.hid (show Rel ts' (cancelR r x) ∧ (cancelR r x).length ≤ i ∧ ∀ t ∈ cancelR r x, t.2 ≤ 1000 from ⟨r4, Nat.le_trans (cancelR_len r x) hr.out.2.1, fun t ht => hr.out.2.2 t (mem_cancelR.1 ht).1⟩); have HF4 := Lib.hid (HF3.out.trans f4); have ROW4 := Lib.hid (HO3.out.fx f4)
                  clear h4 r4 f4 HCP d0
                  go_wp2_with fail
                  have hj1 : j + 1 ≤ i := by omega
                  refine ⟨⟨j + 1, ts', cancelR r x, n', hj1, by go_num, ROW4, HH4, HR4, HF4⟩, ?_⟩
                  clear HH4 HR4 HF4 ROW4 hh hr hf hrow
                  simp only [intOf]
                  omega
                · have hev' : (md == 0) = false := by rw [beq_eq_false_iff_ne]; exact hev
                  go_wp2_with fail
                  have hj1 : j + 1 ≤ i := by omega
                  refine ⟨⟨j + 1, ts, r, n, hj1, by go_num, hrow, hh, hr, hf⟩, ?_⟩
                  clear hh hr hf hrow
                  simp only [intOf]
                  omega
              · have hjN : j = i := by omega
                subst hjN
                have hout1 : (j : Int) < (len0 : Int) := by omega
                have hout2 : ¬ (j : Int) < 30 := by omega
                have hdn := dueN_all hr.out.2.2
                have hdu := due_hp 1000 hh.out hf.out.bel.size hr.out.1 (by rw [hr.out.1.perm.length_eq]; have := hr.out.2.1; omega)
                rw [hdn, List.take_length, List.drop_length] at hdu
                have HDU := Lib.hid hdu
                clear hdn hdu
                go_wp2_with fail
                refine HDU.out.mono ?_
                rintro e w3 ⟨v3, rfl, ho3, ts3, n3, h3, r3, f3, _⟩
                have hke := keys_r (hrow.out.fx f3) (by have := hr.out.2.1; omega)
                have ht3 : ts3 = [] := List.eq_nil_of_length_eq_zero (by rw [r3.perm.length_eq]; rfl)
                subst ht3
                have HKE := Lib.hid hke; have HO3 := Lib.hid ho3; have HH3 := Lib.hid h3; have HF3 := Lib.hid (hf.out.trans f3)
                clear hke ho3 h3 r3 f3 HDU
                go_wp2_with fail
                refine HKE.out.mono ?_
                rintro e w4 ⟨v4, rfl, ho4, hb4⟩
                have hsm := same_own ((Fr.of_below hb4).own HO3.out (fun j hj => by have := (HO3.out.lt j hj).2; omega)) ho4 (by rw [List.length_map]; have := hr.out.2.1; omega)
                have hl4 := fun q => len_hp ((HH3.out.below hb4 (Nat.le_refl _)).drewN q)
                have HSM := Lib.hid hsm; have HL4 := Lib.hid hl4; have HB4 := Lib.hid hb4
                clear hsm hl4 ho4 hb4 HKE
                go_wp2_with fail
                refine HSM.out.mono ?_
                rintro e w5 ⟨rfl, q, rfl⟩
                go_wp2_with fail
                refine (HL4.out q).mono ?_
                rintro e w6 ⟨rfl, rfl⟩
                go_wp2_with fail
                refine (HLV.out _).mono ?_
                rintro e w7 ⟨rfl, hb7⟩
                have HB7 := Lib.hid hb7
                clear hb7
                go_wp2_with fail
                go_ret
                have hb47 := below_drews (HB4.out.mono (Nat.le_refl _)) q
                exact ⟨rfl, HF3.out.bel.trans ((hb47.mono HF3.out.bel.size).trans (HB7.out.mono (Nat.le_trans HF3.out.bel.size (Nat.le_trans HB4.out.size (Nat.le_refl _)))))⟩
  · obtain ⟨N, hN⟩ : ∃ N, N = len0 := ⟨_, rfl⟩
    have hN30 : N ≤ 30 := by omega
    go_enter Try.func7, Try.ntmps7
    go_wp2_with fail
    refine HN.out.mono ?_
    rintro e w1 ⟨h, rfl, h1, f1⟩
    have HH1 := Lib.hid h1; have HF1 := Lib.hid f1
    clear h1 f1 HN
    go_wp2_with fail
    go_loopw [7] (fun s7 wr => ∃ (k : Nat) (ts r : List Tm) (n : Nat), k ≤ N ∧ s7 = .int .i64 (k : Int) ∧ Hid (HP wr w.heap.size h ts n) ∧ Hid (Rel ts r ∧ Keyed1 l k r) ∧ Hid (Fx w.heap.size w wr)) (fun s7 _ => N - (intOf s7).toNat)
    case atStart => exact ⟨0, [], [], 0, by omega, rfl, HH1, Lib.hid ⟨Rel.nil, by simp, by simp, by simp⟩, HF1⟩
    case round =>
      clear HH1 HF1
      obtain ⟨k, ts, r, n, hk, rfl, hh, hr, hf⟩ := hrel
      by_cases hlt : k < N
      · have hin1 : (k : Int) < (len0 : Int) := by omega
        have hin2 : (k : Int) < 30 := by omega
        have hrd0 := HRD.out.keep (w' := wr) (fun q hq => hf.out.bel.cell hq)
        obtain ⟨ad, x, rfl, _, hx, c0⟩ := hrd0.num (show k < len0 by omega)
        have hst := set_hp x (k : Int) hh.out hf.out.bel.size hr.out.1 (by rw [hr.out.1.perm.length_eq]; have := hr.out.2.2.2; omega)
        have HST := Lib.hid hst; have HX := Lib.hid hx
        clear hst hx hrd0
        go_wp2_with fail
        refine HST.out.mono ?_
        rintro e w2 ⟨rfl, ts', n', h2, r2, f2, _⟩
        have HH2 := Lib.hid h2; have HR2 := Lib.hid (show Rel ts' (setR r x k) ∧ Keyed1 l (k + 1) (setR r x k) from ⟨r2, hr.out.2.step HX.out _⟩); have HF2 := Lib.hid (hf.out.trans f2)
        clear h2 r2 f2 HST c0
        go_wp2_with fail
        have hk1 : k + 1 ≤ N := by omega
        refine ⟨⟨k + 1, ts', setR r x k, n', hk1, by go_num, HH2, HR2, HF2⟩, ?_⟩
        clear HH2 HR2 HF2 hh hr hf HX
        simp only [intOf]
        omega
      · have hkN : k = N := by omega
        subst hkN
        have hout1 : ¬ (k : Int) < (len0 : Int) := by omega
        obtain ⟨K2, hK2⟩ : ∃ K2, K2 = Keyed2.start hr.out.2 := ⟨_, rfl⟩
        have HK2 := Lib.hid (Keyed2.start hr.out.2)
        clear hK2 K2
        have wr0 := wr
        go_wp2_with fail
        go_loopw [6, 8] (fun s6 s8 wq => ∃ (i : Nat) (ts R r : List Tm) (n : Nat), i ≤ k ∧ s8 = .int .i64 (i : Int) ∧ Hid (RowT wq s6 r) ∧ Hid (HP wq w.heap.size h ts n) ∧ Hid (Rel ts R ∧ Keyed2 l k i R r) ∧ Hid (Fx w.heap.size w wq)) (fun _ s8 _ => k - (intOf s8).toNat)
        case atStart => exact ⟨0, ts, r, [], n, by omega, rfl, Lib.hid (RowT.nil _), hh, Lib.hid ⟨hr.out.1, HK2.out⟩, hf⟩
        case round =>
          clear hh hr hf HK2
          obtain ⟨i, ts, R, r, n, hi, rfl, hrow, hh, hr, hf⟩ := hrel
          by_cases hlti : i < k
          · have hin1 : (i : Int) < (len0 : Int) := by omega
            have hin2 : (i : Int) < 30 := by omega
            have hrd0 := HRD.out.keep (w' := wr) (fun q hq => hf.out.bel.cell hq)
            obtain ⟨ad, x, rfl, hab, hx, c0⟩ := hrd0.num (show i < len0 by omega)
            have HX := Lib.hid hx
            have hhad : hasR R x = true := hr.out.2.1 x (List.mem_of_getElem? (i := i) (by rw [List.getElem?_take_of_lt hlti]; exact hx))
            have HHAD := Lib.hid hhad
            clear hrd0 hx hhad
            by_cases hi1 : i < len1
            · have hi1' : (i : Int) < (len1 : Int) := by omega
              have hrd1 := HRD2.out.keep (w' := wr) (fun q hq => hf.out.bel.cell hq)
              obtain ⟨ad1, y, rfl, _, hy, d0⟩ := hrd1.num hi1
              obtain ⟨a, haa⟩ : ∃ a, a = y.tmod 1000 := ⟨_, rfl⟩
              have hab1 : a ≤ 1000 := by rw [haa]; have := Int.tmod_lt_of_pos y (show (0 : Int) < 1000 by omega); omega
              have hmod := haa.symm
              have HAB := Lib.hid hab1
              clear hrd1 hy haa hab1
              have hset := set_hp x a hh.out hf.out.bel.size hr.out.1 (by rw [hr.out.1.perm.length_eq]; have := hr.out.2.2.2.1; omega)
              rw [HHAD.out] at hset
              have hsr := fun (W : World) (v : Value) (hx : RowT W v r) => set_r x a hx (by have := hr.out.2.2.2.2.2.2.1; omega)
              have HSET := Lib.hid hset; have HSR := Lib.hid hsr
              clear hset hsr
              go_wp2_with fail
              refine HSET.out.mono ?_
              rintro e w3 ⟨rfl, ts', n', h3, r3, f3, _⟩
              have e0 := (f3.bel.cell (by rw [block_of_add]; exact Nat.lt_of_lt_of_le hab (Nat.le_refl _))).trans c0
              have hsr3 := HSR.out w3 _ (hrow.out.fx f3)
              have HSR3 := Lib.hid hsr3; have HH3 := Lib.hid h3; have HR3 := Lib.hid r3; have HF3 := Lib.hid (hf.out.trans f3)
              clear hsr3 h3 r3 f3 HSET c0
              go_wp2_with fail
              refine HSR3.out.mono ?_
              rintro e w4 ⟨v4, rfl, ho4, hb4⟩
              have HH4 := Lib.hid (HH3.out.below hb4 (Nat.le_refl _)); have ROW4 := Lib.hid (RowT.of_own ho4)
              have HR4 := Lib.hid (show Rel ts' (setR R x a) ∧ Keyed2 l k (i + 1) (setR R x a) (setR r x a) from ⟨HR3.out, hr.out.2.step hlti HX.out HAB.out⟩)
              have HF4 := Lib.hid (HF3.out.trans (Fx.of_below hb4 HF3.out.bel.size (Nat.le_refl _)))
              clear ho4 hb4 HSR3 e0
              go_wp2_with fail
              have hi1 : i + 1 ≤ k := by omega
              refine ⟨⟨i + 1, ts', setR R x a, setR r x a, n', hi1, by go_num, ROW4, HH4, HR4, HF4⟩, ?_⟩
              clear HH4 HR4 HF4 ROW4 hh hr hf hrow HX HHAD HAB HH3 HR3 HF3 HSR
              simp only [intOf]
              omega
            · have hi1' : ¬ (i : Int) < (len1 : Int) := by omega
              obtain ⟨a, haa⟩ : ∃ a : Int, a = (i : Int) := ⟨_, rfl⟩
              have HAB : Hid (a ≤ 1000) := Lib.hid (by omega)
              subst haa
              have hset := set_hp x (i : Int) hh.out hf.out.bel.size hr.out.1 (by rw [hr.out.1.perm.length_eq]; have := hr.out.2.2.2.1; omega)
              rw [HHAD.out] at hset
              have hsr := fun (W : World) (v : Value) (hx : RowT W v r) => set_r x (i : Int) hx (by have := hr.out.2.2.2.2.2.2.1; omega)
              have HSET := Lib.hid hset; have HSR := Lib.hid hsr
              clear hset hsr
              go_wp2_with fail
              refine HSET.out.mono ?_
              rintro e w3 ⟨rfl, ts', n', h3, r3, f3, _⟩
              have e0 := (f3.bel.cell (by rw [block_of_add]; exact Nat.lt_of_lt_of_le hab (Nat.le_refl _))).trans c0
              have hsr3 := HSR.out w3 _ (hrow.out.fx f3)
              have HSR3 := Lib.hid hsr3; have HH3 := Lib.hid h3; have HR3 := Lib.hid r3; have HF3 := Lib.hid (hf.out.trans f3)
              clear hsr3 h3 r3 f3 HSET c0
              go_wp2_with fail
              refine HSR3.out.mono ?_
              rintro e w4 ⟨v4, rfl, ho4, hb4⟩
              have HH4 := Lib.hid (HH3.out.below hb4 (Nat.le_refl _)); have ROW4 := Lib.hid (RowT.of_own ho4)
              have HR4 := Lib.hid (show Rel ts' (setR R x (i : Int)) ∧ Keyed2 l k (i + 1) (setR R x (i : Int)) (setR r x (i : Int)) from ⟨HR3.out, hr.out.2.step hlti HX.out HAB.out⟩)
              have HF4 := Lib.hid (HF3.out.trans (Fx.of_below hb4 HF3.out.bel.size (Nat.le_refl _)))
              clear ho4 hb4 HSR3 e0
              go_wp2_with fail
              have hi1 : i + 1 ≤ k := by omega
              refine ⟨⟨i + 1, ts', setR R x (i : Int), setR r x (i : Int), n', hi1, by go_num, ROW4, HH4, HR4, HF4⟩, ?_⟩
              clear HH4 HR4 HF4 ROW4 hh hr hf hrow HX HHAD HAB HH3 HR3 HF3 HSR
              simp only [intOf]
              omega
          · have hiN : i = k := by omega
            subst hiN
            have hout1 : ¬ (i : Int) < (len0 : Int) := by omega
            have hRr := hr.out.2.same (srt_of hr.out.1)
            have hrel1 := hr.out.1
            rw [hRr] at hrel1
            have HR3 := Lib.hid (show Rel ts r ∧ r.length ≤ i ∧ ∀ t ∈ r, t.2 ≤ 1000 from ⟨hrel1, hr.out.2.2.2.2.2.2.1, hr.out.2.2.2.2.2.2.2⟩)
            clear hRr hrel1 hr
            go_wp2_with fail
            go_loopw [6, 13] (fun s6 s13 wq => ∃ (j : Nat) (ts r : List Tm) (n : Nat), j ≤ i ∧ s13 = .int .i64 (j : Int) ∧ Hid (RowT wq s6 r) ∧ Hid (HP wq w.heap.size h ts n) ∧ Hid (Rel ts r ∧ r.length ≤ i ∧ ∀ t ∈ r, t.2 ≤ 1000) ∧ Hid (Fx w.heap.size w wq)) (fun _ s13 _ => i - (intOf s13).toNat)
            case atStart => exact ⟨0, ts, r, n, by omega, rfl, hrow, hh, HR3, hf⟩
            case round =>
              clear hh hrow HR3 hf
              obtain ⟨j, ts, r, n, hj, rfl, hrow, hh, hr, hf⟩ := hrel
              by_cases hltj : j < i
              · have hin1 : (j : Int) < (len0 : Int) := by omega
                have hin2 : (j : Int) < 30 := by omega
                have hrd0 := HRD.out.keep (w' := wr) (fun q hq => hf.out.bel.cell hq)
                obtain ⟨ad, x, rfl, hab, hx, c0⟩ := hrd0.num (show j < len0 by omega)
                clear hrd0 hx
                obtain ⟨md, hmd⟩ : ∃ md, x.tmod 2 = md := ⟨_, rfl⟩
                by_cases hev : md = 0
                · subst hev
                  have hca := cancel_r x hrow.out (by have := hr.out.2.1; omega)
                  obtain ⟨q, hq⟩ : ∃ q, q = hasR r x := ⟨_, rfl⟩
                  rw [← hq] at hca
                  have HCA := Lib.hid hca; have HQ := Lib.hid hq
                  clear hca hq
                  go_wp2_with fail
                  refine HCA.out.mono ?_
                  rintro e w3 ⟨v3, rfl, ho3, hb3⟩
                  have d0 := (hb3.cell (by rw [block_of_add]; exact Nat.lt_of_lt_of_le hab hf.out.bel.size)).trans c0
                  have hcp := cancel_hp x (hh.out.below hb3 (Nat.le_refl _)) (Nat.le_trans hf.out.bel.size hb3.size) hr.out.1 (by rw [hr.out.1.perm.length_eq]; have := hr.out.2.1; omega)
                  rw [← HQ.out] at hcp
                  have HCP := Lib.hid hcp; have HO3 := Lib.hid (RowT.of_own ho3); have HF3 := Lib.hid (hf.out.trans (Fx.of_below hb3 hf.out.bel.size (Nat.le_refl _)))
                  clear hcp ho3 hb3 HCA c0
                  go_wp2_with fail
                  refine HCP.out.mono ?_
                  rintro e w4 ⟨rfl, ts', n', h4, r4, f4, _⟩
                  have HH4 := Lib.hid h4; have HR4 := Lib.hid (show Rel ts' (cancelR r x) ∧ (cancelR r x).length ≤ i ∧ ∀ t ∈ cancelR r x, t.2 ≤ 1000 from ⟨r4, Nat.le_trans (cancelR_len r x) hr.out.2.1, fun t ht => hr.out.2.2 t (mem_cancelR.1 ht).1⟩); have HF4 := Lib.hid (HF3.out.trans f4); have ROW4 := Lib.hid (HO3.out.fx f4)
                  clear h4 r4 f4 HCP d0
                  go_wp2_with fail
                  have hj1 : j + 1 ≤ i := by omega
                  refine ⟨⟨j + 1, ts', cancelR r x, n', hj1, by go_num, ROW4, HH4, HR4, HF4⟩, ?_⟩
                  clear HH4 HR4 HF4 ROW4 hh hr hf hrow
                  simp only [intOf]
                  omega
                · have hev' : (md == 0) = false := by rw [beq_eq_false_iff_ne]; exact hev
                  go_wp2_with fail
                  have hj1 : j + 1 ≤ i := by omega
                  refine ⟨⟨j + 1, ts, r, n, hj1, by go_num, hrow, hh, hr, hf⟩, ?_⟩
                  clear hh hr hf hrow
                  simp only [intOf]
                  omega
              · have hjN : j = i := by omega
                subst hjN
                have hout1 : ¬ (j : Int) < (len0 : Int) := by omega
                have hdn := dueN_all hr.out.2.2
                have hdu := due_hp 1000 hh.out hf.out.bel.size hr.out.1 (by rw [hr.out.1.perm.length_eq]; have := hr.out.2.1; omega)
                rw [hdn, List.take_length, List.drop_length] at hdu
                have HDU := Lib.hid hdu
                clear hdn hdu
                go_wp2_with fail
                refine HDU.out.mono ?_
                rintro e w3 ⟨v3, rfl, ho3, ts3, n3, h3, r3, f3, _⟩
                have hke := keys_r (hrow.out.fx f3) (by have := hr.out.2.1; omega)
                have ht3 : ts3 = [] := List.eq_nil_of_length_eq_zero (by rw [r3.perm.length_eq]; rfl)
                subst ht3
                have HKE := Lib.hid hke; have HO3 := Lib.hid ho3; have HH3 := Lib.hid h3; have HF3 := Lib.hid (hf.out.trans f3)
                clear hke ho3 h3 r3 f3 HDU
                go_wp2_with fail
                refine HKE.out.mono ?_
                rintro e w4 ⟨v4, rfl, ho4, hb4⟩
                have hsm := same_own ((Fr.of_below hb4).own HO3.out (fun j hj => by have := (HO3.out.lt j hj).2; omega)) ho4 (by rw [List.length_map]; have := hr.out.2.1; omega)
                have hl4 := fun q => len_hp ((HH3.out.below hb4 (Nat.le_refl _)).drewN q)
                have HSM := Lib.hid hsm; have HL4 := Lib.hid hl4; have HB4 := Lib.hid hb4
                clear hsm hl4 ho4 hb4 HKE
                go_wp2_with fail
                refine HSM.out.mono ?_
                rintro e w5 ⟨rfl, q, rfl⟩
                go_wp2_with fail
                refine (HL4.out q).mono ?_
                rintro e w6 ⟨rfl, rfl⟩
                go_wp2_with fail
                refine (HLV.out _).mono ?_
                rintro e w7 ⟨rfl, hb7⟩
                have HB7 := Lib.hid hb7
                clear hb7
                go_wp2_with fail
                go_ret
                have hb47 := below_drews (HB4.out.mono (Nat.le_refl _)) q
                exact ⟨rfl, HF3.out.bel.trans ((hb47.mono HF3.out.bel.size).trans (HB7.out.mono (Nat.le_trans HF3.out.bel.size (Nat.le_trans HB4.out.size (Nat.le_refl _)))))⟩
end Go.Proofs.Ytglgficmfpecgaa.heapMoves
