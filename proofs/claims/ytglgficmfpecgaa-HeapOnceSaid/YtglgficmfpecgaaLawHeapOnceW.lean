
/-
  The walk of HeapOnce.
-/
import Derived.Test.YtglgficmfpecgaaRows
import Derived.WalkKit
import Derived.ProofKit
import Derived.OpenShut
import Derived.ShutString
import Derived.ChangeOld
import Derived.Below
import Derived.Test.YtglgficmfpecgaaHpF
import Derived.Test.YtglgficmfpecgaaRgOwn
namespace Go.Proofs.Ytglgficmfpecgaa.heapOnce
open Go.ChangeShapes Go.WideShapes Go.ChangeAt Go.RowKit Go.Proofs.Ytglgficmfpecgaa Go.Proofs.Ytglgficmfpecgaa.Plain
open Go.ChangeMaps (open_string shut_string)
set_option linter.unusedVariables false


set_option maxRecDepth 100000 in
set_option maxHeartbeats 40000000 in
theorem walk (a0 : Option Addr) (len0 cap0 : Nat) (z0 : List Int) (a1 : Option Addr) (len1 cap1 : Nat) (z1 : List Int) (w : World) (w0 : IsRow .i64 w a0 len0 cap0 z0) (w1 : IsRow .i64 w a1 len1 cap1 z1) :
    Calls Try.prog 5 #[.slice a0 len0 cap0, .slice a1 len1 cap1] w fun e w' => e = .returned (.bool true) ∧ Below w.heap.size w w' := by
  obtain ⟨l, hl, hR, hlb, hc, hn⟩ := row_int w0
  obtain ⟨m, hm, hR2, hmb, hc2, hn2⟩ := row_int w1
  have hnew := new_hp w w.heap.size (Nat.le_refl _)
  have HN := Lib.hid hnew; have HRD := Lib.hid hR; have HRD2 := Lib.hid hR2; have HLL := Lib.hid hl; have HLB := Lib.hid hlb; have HMB := Lib.hid hmb; have HML := Lib.hid hm
  have HLV := Lib.hid lives_hp
  clear hnew hR hR2 hl hlb hm hmb w0 w1
  rcases Nat.lt_or_ge 30 len0 with hbig | hsmall
  · rcases Nat.lt_or_ge 20 len1 with hbig1 | hsmall1
    · obtain ⟨N, hN⟩ : ∃ N, N = 30 := ⟨_, rfl⟩
      have hN30 : N ≤ 30 := by omega
      have hNl : N < len0 := by omega
      obtain ⟨M, hM⟩ : ∃ M, M = 20 := ⟨_, rfl⟩
      have hM20 : M ≤ 20 := by omega
      have hMl : M < len1 := by omega
      go_enter Try.func5, Try.ntmps5
      go_wp2_with fail
      refine HN.out.mono ?_
      rintro e w1 ⟨h, rfl, h1, f1⟩
      have HH1 := Lib.hid h1; have HF1 := Lib.hid f1
      clear h1 f1 HN
      go_wp2_with fail
      go_loopw [6, 7] (fun s6 s7 wr => ∃ (k : Nat) (ts r : List Tm) (n : Nat), k ≤ N ∧ s7 = .int .i64 (k : Int) ∧ Hid (RowT wr s6 r) ∧ Hid (HP wr w.heap.size h ts n) ∧ Hid (Rel ts r ∧ r.length ≤ k ∧ ∀ t ∈ r, t.2 ≤ 1000) ∧ Hid (Fx w.heap.size w wr)) (fun _ s7 _ => N - (intOf s7).toNat)
      case atStart => exact ⟨0, [], [], 0, by omega, rfl, Lib.hid (RowT.nil _), HH1, Lib.hid ⟨Rel.nil, by simp, by simp⟩, HF1⟩
      case round =>
        clear HH1 HF1
        obtain ⟨k, ts, r, n, hk, rfl, hrow, hh, hr, hf⟩ := hrel
        by_cases hlt : k < N
        · have hin1 : (k : Int) < (len0 : Int) := by omega
          have hin2 : (k : Int) < 30 := by omega
          have hrd0 := HRD.out.keep (w' := wr) (fun q hq => hf.out.bel.cell hq)
          obtain ⟨ad, x, rfl, _, hx, c0⟩ := hrd0.num (show k < len0 by omega)
          have hxb := HLB.out x (List.mem_of_getElem? hx)
          have har := around_any x 1000 wr hxb.1 hxb.2 (by omega) (by omega)
          have hal := aroundV_lt (n := x) (m := 1000) (by omega)
          generalize aroundV x 1000 = a at har hal
          have hst := set_hp (k : Int) a hh.out hf.out.bel.size hr.out.1 (by rw [hr.out.1.perm.length_eq]; have := hr.out.2.1; omega)
          have hsr := fun (W : World) (v : Value) (hx : RowT W v r) => set_r (k : Int) a hx (by have := hr.out.2.1; omega)
          have HAR := Lib.hid har; have HAL := Lib.hid hal; have HST := Lib.hid hst; have HSR := Lib.hid hsr
          clear har hal hst hsr hrd0 hx hxb
          go_wp2_with fail
          refine HAR.out.mono ?_
          rintro e w2 ⟨rfl, rfl⟩
          go_wp2_with fail
          refine HST.out.mono ?_
          rintro e w3 ⟨rfl, ts', n', h3, r3, f3, _⟩
          have hsr3 := HSR.out w3 _ (hrow.out.fx f3)
          have HSR3 := Lib.hid hsr3; have HH3 := Lib.hid h3; have HR3 := Lib.hid r3; have HF3 := Lib.hid (hf.out.trans f3)
          clear hsr3 h3 r3 f3 HST c0
          go_wp2_with fail
          refine HSR3.out.mono ?_
          rintro e w4 ⟨v4, rfl, ho4, hb4⟩
          have HH4 := Lib.hid (HH3.out.below hb4 (Nat.le_refl _)); have ROW4 := Lib.hid (RowT.of_own ho4)
          have HR4 := Lib.hid (show Rel ts' (setR r k a) ∧ (setR r k a).length ≤ k + 1 ∧ ∀ t ∈ setR r k a, t.2 ≤ 1000 from ⟨HR3.out, by have := setR_len r k a; have := cancelR_len r k; have := hr.out.2.1; omega, fun t ht => by
            rcases mem_setR.1 ht with rfl | ⟨h1, _⟩
            · have := HAL.out.2
              show a ≤ 1000
              omega
            · exact hr.out.2.2 t h1⟩)
          have HF4 := Lib.hid (HF3.out.trans (Fx.of_below hb4 HF3.out.bel.size (Nat.le_refl _)))
          clear ho4 hb4 HSR3
          go_wp2_with fail
          have hk1 : k + 1 ≤ N := by omega
          refine ⟨⟨k + 1, ts', setR r k a, n', hk1, by go_num, ROW4, HH4, HR4, HF4⟩, ?_⟩
          clear HH4 HR4 HF4 ROW4 hh hr hf hrow HH3 HR3 HF3 HSR HAL
          simp only [intOf]
          omega
        · have hkN : k = N := by omega
          subst hkN
          have hout1 : (k : Int) < (len0 : Int) := by omega
          have hout2 : ¬ (k : Int) < 30 := by omega
          have hr30 : r.length ≤ 30 := by have := hr.out.2.1; omega
          have HSRT := Lib.hid (srt_of hr.out.1)
          have HLE := Lib.hid hr.out.2.2
          have hst0 : Hid (Rel ts (r.drop 0)) := Lib.hid (by rw [List.drop_zero]; exact hr.out.1)
          obtain ⟨i0, hi0, hz0, hz1, hz2⟩ := info_parts info_int
          obtain ⟨A6, c6, rfl, hc6⟩ := hrow.out.len
          go_wp2_with fail
          go_loopw [11, 12, 13] (fun s11 s12 s13 wq => ∃ (i c : Nat) (now : Int) (ts : List Tm) (n : Nat) (A12 : Option Addr) (c12 : Nat), s12 = .slice A12 c c12 ∧ i ≤ M + 1 ∧ s13 = .int .i64 (i : Int) ∧ s11 = .int .i64 now ∧ (i ≤ M → -1 ≤ now ∧ now ≤ i * 100) ∧ c ≤ r.length ∧ Hid (i = M + 1 → c = r.length) ∧ Hid (wq.ownsRow w.heap.size 3 1 (.slice A12 c c12) c (((r.take c).map (·.1)).map EnI)) ∧ Hid (RowT wq (.slice A6 r.length c6) r) ∧ Hid (HP wq w.heap.size h ts n) ∧ Hid (Rel ts (r.drop c)) ∧ Hid (Fx w.heap.size w wq)) (fun _ _ s13 _ => M + 1 - (intOf s13).toNat)
          case atStart => exact ⟨0, 0, -1, ts, n, none, 0, rfl, by omega, rfl, rfl, by omega, by omega, Lib.hid (by omega), Lib.hid (World.ownsRow_nil wr w.heap.size 3 1), hrow, hh, hst0, hf⟩
          case round =>
            clear hh hrow hf hr hst0
            obtain ⟨i, c, now, ts, n, A12, c12, rfl, hi, rfl, rfl, hnow, hcr, hcl, hown, hrow, hh, hr, hf⟩ := hrel
            rcases Nat.lt_trichotomy i M with hlt | hie | hgt
            · have hin1 : (i : Int) < (len1 : Int) := by omega
              have hin2 : (i : Int) < 20 := by omega
              have hin3 : (i : Int) ≤ (len1 : Int) := by omega
              have hin4 : (i : Int) ≤ 20 := by omega
              obtain ⟨hnw1, hnw2⟩ := hnow (by omega)
              have hrd0 := HRD2.out.keep (w' := wr) (fun q hq => hf.out.bel.cell hq)
              obtain ⟨ad2, x, rfl, _, hx, c0⟩ := hrd0.num (show i < len1 by omega)
              have hxb := HMB.out x (List.mem_of_getElem? hx)
              have har := around_any x 100 wr hxb.1 hxb.2 (by omega) (by omega)
              have hal := aroundV_lt (n := x) (m := 100) (by omega)
              generalize aroundV x 100 = a at har hal
              obtain ⟨now2, hn2⟩ : ∃ z, now + a = z := ⟨_, rfl⟩
              have hnow2 : i + 1 ≤ M → -1 ≤ now2 ∧ now2 ≤ ((i + 1 : Nat) : Int) * 100 := fun _ => by omega
              have hnb : -1 ≤ now2 ∧ now2 ≤ 100000 := by omega
              have hwr : IntKind.i64.wrap (now + a) = now2 := by rw [IntWalk.i64_in _ (by omega), hn2]
              have hlast : Hid (i = M + 1 - 1 → 1000 ≤ now2) := Lib.hid (fun e => absurd e (by omega))
              have hadd := hn2
              have HAR := Lib.hid har
              clear har hal hrd0 hx hxb hn2 hadd hnw1 hnw2
              go_wp2_with fail
              refine HAR.out.mono ?_
              rintro e w2 ⟨rfl, rfl⟩
              have hdu := due_hp now2 hh.out hf.out.bel.size hr.out (by rw [hr.out.perm.length_eq, List.length_drop]; omega)
              obtain ⟨d, hd⟩ : ∃ d, d = dueN (r.drop c) now2 := ⟨_, rfl⟩
              have hdl := dueN_le (r.drop c) now2
              have hmem : ∀ t ∈ (r.drop c).take d, t.2 ≤ now2 := by rw [hd]; exact due_le
              have hcd : c + d ≤ r.length := by rw [List.length_drop] at hdl; omega
              have hfull : Hid (i + 1 = M + 1 → c + d = r.length) := Lib.hid (fun e => by
                have h9 := hlast.out (by omega)
                have := dueN_all (r := r.drop c) (now := now2) (fun t ht => Int.le_trans (HLE.out t (List.mem_of_mem_drop ht)) h9)
                rw [List.length_drop] at this
                omega)
              rw [← hd] at hdu
              obtain ⟨L, hL⟩ : ∃ L, L = ((r.drop c).take d).map (·.1) := ⟨_, rfl⟩
              have hLl : L.length = d := by rw [hL, List.length_map, List.length_take, List.length_drop]; omega
              rw [← hL] at hdu
              have HDU := Lib.hid hdu; have HMEM := Lib.hid hmem; have HL := Lib.hid hL; have HLl := Lib.hid hLl
              clear hdu hd hdl hmem hL hLl
              go_wp2_with fail
              refine HDU.out.mono ?_
              rintro e w3 ⟨v3, rfl, ho3, ts3, n3, h3, r3, f3, _⟩
              obtain ⟨A, cc, rfl, hac, hrl⟩ := ho3.slice
              have hd30 : d ≤ 30 := by omega
              rw [HLl.out] at hac hrl ⊢
              rw [List.drop_drop] at r3
              have HRL := Lib.hid hrl; have HH3 := Lib.hid h3; have HR3 := Lib.hid r3; have HF3 := Lib.hid (hf.out.trans f3)
              have ROW3 := Lib.hid (hrow.out.fx f3); have HOW3 := Lib.hid (f3.own hown.out intT_ne.1 intT_ne.2)
              have hA3 := hf.out.bel.size
              clear h3 r3 f3 ho3 hrl HDU hA3
              go_wp2_with fail
              go_loopw [15] (fun s15 wq => ∃ j : Nat, j ≤ d ∧ s15 = .int .i64 (j : Int) ∧ wq = w3) (fun s15 _ => d - (intOf s15).toNat)
              case atStart => exact ⟨0, by omega, rfl, rfl⟩
              case round =>
                obtain ⟨j, hj, rfl, rfl⟩ := hrel
                by_cases hltj : j < d
                · have hltj' : (j : Int) < (d : Int) := by omega
                  obtain ⟨ad, x, rfl, _, hx, c0⟩ := HRL.out.num hltj
                  have htx : ∃ t ∈ (r.drop c).take d, t.1 = x := by
                    have h5 := List.mem_of_getElem? hx
                    rw [HL.out] at h5
                    obtain ⟨t, ht, e⟩ := List.mem_map.1 h5
                    exact ⟨t, ht, e⟩
                  obtain ⟨⟨t1, t2⟩, ht, e⟩ := htx
                  have e' : t1 = x := e
                  subst e'
                  have htn : t2 ≤ now2 := HMEM.out _ ht
                  have hat := at_r t1 ROW3.out (by omega)
                  rw [atR_mem HSRT.out (t := (t1, t2)) (List.mem_of_mem_drop (List.mem_of_mem_take ht))] at hat
                  have HAT := Lib.hid hat
                  clear hat ht hx e
                  go_wp2_with fail
                  refine HAT.out.mono ?_
                  rintro e w5 ⟨rfl, rfl⟩
                  go_wp2_with fail
                  have hj1 : j + 1 ≤ d := by omega
                  refine ⟨⟨j + 1, hj1, by go_num, by simp⟩, ?_⟩
                  clear hnow hcl hown hrow hh hr hf HAT
                  simp only [intOf]
                  omega
                · have hjd : j = d := by omega
                  subst hjd
                  have hot : ∀ u ∈ L.map EnI, u.oneCell' = true := fun u hu => by
                    obtain ⟨x, _, rfl⟩ := List.mem_map.1 hu
                    rfl
                  obtain ⟨K, hK⟩ : ∃ K, K = (r.take c).map (·.1) := ⟨_, rfl⟩
                  have hKl : K.length = c := by rw [hK, List.length_map, List.length_take]; omega
                  have how2 := HOW3.out
                  rw [← hK] at how2
                  have hb1 : c + j ≤ maxLen := by unfold maxLen; omega
                  have hb2 : (c + j) * 8 ≤ 140737488355328 := by omega
                  have hb3 : w.heap.size ≤ wr.heap.size := HF3.out.bel.size
                  have HOT := Lib.hid hot; have HKK := Lib.hid hK; have HKl := Lib.hid hKl; have HOW := Lib.hid how2; have HB1 := Lib.hid hb1; have HB2 := Lib.hid hb2; have HB3 := Lib.hid hb3
                  clear hot hK hKl how2 hb1 hb2 hb3 HOW3
                  go_wp2_with (at_builtin; go_must (refine wpList_append_any _ rfl (.tmp 98) (.tmp 99) _ rfl w.heap.size 3 i0 _ 1 8 Try.underlying32 hi0 hz0 hz1 hz2 rfl (by omega) _ c (K.map EnI) rfl HOW.out wr.heap.size A j cc (L.map EnI) rfl HRL.out HOT.out HB1.out HB2.out HB3.out ?_))
                  intro v5 w5 hr5 hg5 hv5
                  have f5 := HF3.out.grown hg5 (own_base HOW.out) (Nat.le_refl _)
                  have h5 := HH3.out.grown HOW.out hg5 intT_ne.1 intT_ne.2
                  have row5 := ROW3.out.grown HOW.out hg5
                  have how5 : w5.ownsRow w.heap.size 3 1 v5 (c + j) (((r.take (c + j)).map (·.1)).map EnI) := by
                    rw [← take_keys, ← HKK.out, ← HL.out, List.map_append]
                    exact hr5
                  have hsh : ∃ A' c', v5 = .slice A' (c + j) c' := by
                    rcases how5.2 with ⟨e, h0⟩ | ⟨g', cap, cur, e, _⟩
                    · rw [h0] at *
                      exact ⟨none, 0, e⟩
                    · exact ⟨_, cap, e⟩
                  obtain ⟨A5, c5, rfl⟩ := hsh
                  have HF5 := Lib.hid f5; have HH5 := Lib.hid h5; have ROW5 := Lib.hid row5; have HOW5 := Lib.hid how5
                  clear hr5 hg5 hv5 f5 h5 row5 how5 HOW HRL
                  go_wp2_with fail
                  have hi1 : i + 1 ≤ M + 1 := by omega
                  refine ⟨⟨i + 1, c + j, now2, ts3, n3, A5, c5, rfl, hi1, by go_num, rfl, hnow2, hcd, hfull, HOW5, ROW5, HH5, HR3, HF5⟩, ?_⟩
                  clear hnow hnow2 hcl hown hrow hh hr hf HOW5 ROW5 HH5 HR3 HF5 HMEM HLE hlast hfull
                  simp only [intOf]
                  omega
            · have hin3 : (i : Int) ≤ (len1 : Int) := by omega
              have hin4 : (i : Int) ≤ 20 := by omega
              have hin1 : (i : Int) < (len1 : Int) := by omega
              have hin2 : ¬ (i : Int) < 20 := by omega
              obtain ⟨now2, hn2⟩ : ∃ z : Int, z = 100000 := ⟨_, rfl⟩
              have hnow2 : i + 1 ≤ M → -1 ≤ now2 ∧ now2 ≤ ((i + 1 : Nat) : Int) * 100 := fun _ => by omega
              have hnb : -1 ≤ now2 ∧ now2 ≤ 100000 := by omega
              have hlast : Hid (i = M + 1 - 1 → 1000 ≤ now2) := Lib.hid (fun _ => by omega)
              subst hn2
              have hdu := due_hp 100000 hh.out hf.out.bel.size hr.out (by rw [hr.out.perm.length_eq, List.length_drop]; omega)
              obtain ⟨d, hd⟩ : ∃ d, d = dueN (r.drop c) 100000 := ⟨_, rfl⟩
              have hdl := dueN_le (r.drop c) 100000
              have hmem : ∀ t ∈ (r.drop c).take d, t.2 ≤ 100000 := by rw [hd]; exact due_le
              have hcd : c + d ≤ r.length := by rw [List.length_drop] at hdl; omega
              have hfull : Hid (i + 1 = M + 1 → c + d = r.length) := Lib.hid (fun e => by
                have h9 := hlast.out (by omega)
                have := dueN_all (r := r.drop c) (now := 100000) (fun t ht => Int.le_trans (HLE.out t (List.mem_of_mem_drop ht)) h9)
                rw [List.length_drop] at this
                omega)
              rw [← hd] at hdu
              obtain ⟨L, hL⟩ : ∃ L, L = ((r.drop c).take d).map (·.1) := ⟨_, rfl⟩
              have hLl : L.length = d := by rw [hL, List.length_map, List.length_take, List.length_drop]; omega
              rw [← hL] at hdu
              have HDU := Lib.hid hdu; have HMEM := Lib.hid hmem; have HL := Lib.hid hL; have HLl := Lib.hid hLl
              clear hdu hd hdl hmem hL hLl
              go_wp2_with fail
              refine HDU.out.mono ?_
              rintro e w3 ⟨v3, rfl, ho3, ts3, n3, h3, r3, f3, _⟩
              obtain ⟨A, cc, rfl, hac, hrl⟩ := ho3.slice
              have hd30 : d ≤ 30 := by omega
              rw [HLl.out] at hac hrl ⊢
              rw [List.drop_drop] at r3
              have HRL := Lib.hid hrl; have HH3 := Lib.hid h3; have HR3 := Lib.hid r3; have HF3 := Lib.hid (hf.out.trans f3)
              have ROW3 := Lib.hid (hrow.out.fx f3); have HOW3 := Lib.hid (f3.own hown.out intT_ne.1 intT_ne.2)
              have hA3 := hf.out.bel.size
              clear h3 r3 f3 ho3 hrl HDU hA3
              go_wp2_with fail
              go_loopw [15] (fun s15 wq => ∃ j : Nat, j ≤ d ∧ s15 = .int .i64 (j : Int) ∧ wq = w3) (fun s15 _ => d - (intOf s15).toNat)
              case atStart => exact ⟨0, by omega, rfl, rfl⟩
              case round =>
                obtain ⟨j, hj, rfl, rfl⟩ := hrel
                by_cases hltj : j < d
                · have hltj' : (j : Int) < (d : Int) := by omega
                  obtain ⟨ad, x, rfl, _, hx, c0⟩ := HRL.out.num hltj
                  have htx : ∃ t ∈ (r.drop c).take d, t.1 = x := by
                    have h5 := List.mem_of_getElem? hx
                    rw [HL.out] at h5
                    obtain ⟨t, ht, e⟩ := List.mem_map.1 h5
                    exact ⟨t, ht, e⟩
                  obtain ⟨⟨t1, t2⟩, ht, e⟩ := htx
                  have e' : t1 = x := e
                  subst e'
                  have htn : t2 ≤ 100000 := HMEM.out _ ht
                  have hat := at_r t1 ROW3.out (by omega)
                  rw [atR_mem HSRT.out (t := (t1, t2)) (List.mem_of_mem_drop (List.mem_of_mem_take ht))] at hat
                  have HAT := Lib.hid hat
                  clear hat ht hx e
                  go_wp2_with fail
                  refine HAT.out.mono ?_
                  rintro e w5 ⟨rfl, rfl⟩
                  go_wp2_with fail
                  have hj1 : j + 1 ≤ d := by omega
                  refine ⟨⟨j + 1, hj1, by go_num, by simp⟩, ?_⟩
                  clear hnow hcl hown hrow hh hr hf HAT
                  simp only [intOf]
                  omega
                · have hjd : j = d := by omega
                  subst hjd
                  have hot : ∀ u ∈ L.map EnI, u.oneCell' = true := fun u hu => by
                    obtain ⟨x, _, rfl⟩ := List.mem_map.1 hu
                    rfl
                  obtain ⟨K, hK⟩ : ∃ K, K = (r.take c).map (·.1) := ⟨_, rfl⟩
                  have hKl : K.length = c := by rw [hK, List.length_map, List.length_take]; omega
                  have how2 := HOW3.out
                  rw [← hK] at how2
                  have hb1 : c + j ≤ maxLen := by unfold maxLen; omega
                  have hb2 : (c + j) * 8 ≤ 140737488355328 := by omega
                  have hb3 : w.heap.size ≤ wr.heap.size := HF3.out.bel.size
                  have HOT := Lib.hid hot; have HKK := Lib.hid hK; have HKl := Lib.hid hKl; have HOW := Lib.hid how2; have HB1 := Lib.hid hb1; have HB2 := Lib.hid hb2; have HB3 := Lib.hid hb3
                  clear hot hK hKl how2 hb1 hb2 hb3 HOW3
                  go_wp2_with (at_builtin; go_must (refine wpList_append_any _ rfl (.tmp 98) (.tmp 99) _ rfl w.heap.size 3 i0 _ 1 8 Try.underlying32 hi0 hz0 hz1 hz2 rfl (by omega) _ c (K.map EnI) rfl HOW.out wr.heap.size A j cc (L.map EnI) rfl HRL.out HOT.out HB1.out HB2.out HB3.out ?_))
                  intro v5 w5 hr5 hg5 hv5
                  have f5 := HF3.out.grown hg5 (own_base HOW.out) (Nat.le_refl _)
                  have h5 := HH3.out.grown HOW.out hg5 intT_ne.1 intT_ne.2
                  have row5 := ROW3.out.grown HOW.out hg5
                  have how5 : w5.ownsRow w.heap.size 3 1 v5 (c + j) (((r.take (c + j)).map (·.1)).map EnI) := by
                    rw [← take_keys, ← HKK.out, ← HL.out, List.map_append]
                    exact hr5
                  have hsh : ∃ A' c', v5 = .slice A' (c + j) c' := by
                    rcases how5.2 with ⟨e, h0⟩ | ⟨g', cap, cur, e, _⟩
                    · rw [h0] at *
                      exact ⟨none, 0, e⟩
                    · exact ⟨_, cap, e⟩
                  obtain ⟨A5, c5, rfl⟩ := hsh
                  have HF5 := Lib.hid f5; have HH5 := Lib.hid h5; have ROW5 := Lib.hid row5; have HOW5 := Lib.hid how5
                  clear hr5 hg5 hv5 f5 h5 row5 how5 HOW HRL
                  go_wp2_with fail
                  have hi1 : i + 1 ≤ M + 1 := by omega
                  refine ⟨⟨i + 1, c + j, 100000, ts3, n3, A5, c5, rfl, hi1, by go_num, rfl, hnow2, hcd, hfull, HOW5, ROW5, HH5, HR3, HF5⟩, ?_⟩
                  clear hnow hnow2 hcl hown hrow hh hr hf HOW5 ROW5 HH5 HR3 HF5 HMEM HLE hlast hfull
                  simp only [intOf]
                  omega
            · have hiM : i = M + 1 := by omega
              have hcl2 := hcl.out hiM
              have hout3 : (i : Int) ≤ (len1 : Int) := by omega
              have hout4 : ¬ (i : Int) ≤ 20 := by omega
              have hrn : r.drop c = [] := List.drop_of_length_le (by omega)
              have hrt : r.take c = r := List.take_of_length_le (by omega)
              have hts : ts = [] := List.eq_nil_of_length_eq_zero (by rw [hr.out.perm.length_eq, hrn]; rfl)
              have ho3 : OwnI wr w.heap.size (.slice A12 c c12) (r.map (·.1)) := by
                have h8 := hown.out
                rw [hrt] at h8
                unfold OwnI
                rw [List.length_map, ← hcl2]
                exact h8
              have h3 := hh.out
              rw [hts] at h3
              have hke := keys_r hrow.out (by omega)
              have HKE := Lib.hid hke; have HO3 := Lib.hid ho3; have HH3 := Lib.hid h3
              clear hke ho3 h3 hrn hrt hts hnow hcl2
              go_wp2_with fail
              refine HKE.out.mono ?_
              rintro e w4 ⟨v4, rfl, ho4, hb4⟩
              have hsm := same_own ((Fr.of_below hb4).own HO3.out (fun j hj => by have := (HO3.out.lt j hj).2; omega)) ho4 (by rw [List.length_map]; omega)
              have hl4 := fun q => len_hp ((HH3.out.below hb4 (Nat.le_refl _)).drewN q)
              have HSM := Lib.hid hsm; have HL4 := Lib.hid hl4; have HB4 := Lib.hid hb4
              clear hsm hl4 ho4 hb4 HKE
              go_wp2_with fail
              refine HSM.out.mono ?_
              rintro e w5 ⟨rfl, q, rfl⟩
              go_wp2_with fail
              refine (HL4.out q).mono ?_
              rintro e w6 ⟨rfl, rfl⟩
              go_wp2_with fail
              refine (HLV.out _).mono ?_
              rintro e w7 ⟨rfl, hb7⟩
              have HB7 := Lib.hid hb7
              clear hb7
              go_wp2_with fail
              go_ret
              have hb47 := below_drews (HB4.out.mono (Nat.le_refl _)) q
              exact ⟨rfl, hf.out.bel.trans ((hb47.mono hf.out.bel.size).trans (HB7.out.mono (Nat.le_trans hf.out.bel.size (Nat.le_trans HB4.out.size (Nat.le_refl _)))))⟩
    · obtain ⟨N, hN⟩ : ∃ N, N = 30 := ⟨_, rfl⟩
      have hN30 : N ≤ 30 := by omega
      have hNl : N < len0 := by omega
      obtain ⟨M, hM⟩ : ∃ M, M = len1 := ⟨_, rfl⟩
      have hM20 : M ≤ 20 := by omega
      go_enter Try.func5, Try.ntmps5
      go_wp2_with fail
      refine HN.out.mono ?_
      rintro e w1 ⟨h, rfl, h1, f1⟩
      have HH1 := Lib.hid h1; have HF1 := Lib.hid f1
      clear h1 f1 HN
      go_wp2_with fail
      go_loopw [6, 7] (fun s6 s7 wr => ∃ (k : Nat) (ts r : List Tm) (n : Nat), k ≤ N ∧ s7 = .int .i64 (k : Int) ∧ Hid (RowT wr s6 r) ∧ Hid (HP wr w.heap.size h ts n) ∧ Hid (Rel ts r ∧ r.length ≤ k ∧ ∀ t ∈ r, t.2 ≤ 1000) ∧ Hid (Fx w.heap.size w wr)) (fun _ s7 _ => N - (intOf s7).toNat)
      case atStart => exact ⟨0, [], [], 0, by omega, rfl, Lib.hid (RowT.nil _), HH1, Lib.hid ⟨Rel.nil, by simp, by simp⟩, HF1⟩
      case round =>
        clear HH1 HF1
        obtain ⟨k, ts, r, n, hk, rfl, hrow, hh, hr, hf⟩ := hrel
        by_cases hlt : k < N
        · have hin1 : (k : Int) < (len0 : Int) := by omega
          have hin2 : (k : Int) < 30 := by omega
          have hrd0 := HRD.out.keep (w' := wr) (fun q hq => hf.out.bel.cell hq)
          obtain ⟨ad, x, rfl, _, hx, c0⟩ := hrd0.num (show k < len0 by omega)
          have hxb := HLB.out x (List.mem_of_getElem? hx)
          have har := around_any x 1000 wr hxb.1 hxb.2 (by omega) (by omega)
          have hal := aroundV_lt (n := x) (m := 1000) (by omega)
          generalize aroundV x 1000 = a at har hal
          have hst := set_hp (k : Int) a hh.out hf.out.bel.size hr.out.1 (by rw [hr.out.1.perm.length_eq]; have := hr.out.2.1; omega)
          have hsr := fun (W : World) (v : Value) (hx : RowT W v r) => set_r (k : Int) a hx (by have := hr.out.2.1; omega)
          have HAR := Lib.hid har; have HAL := Lib.hid hal; have HST := Lib.hid hst; have HSR := Lib.hid hsr
          clear har hal hst hsr hrd0 hx hxb
          go_wp2_with fail
          refine HAR.out.mono ?_
          rintro e w2 ⟨rfl, rfl⟩
          go_wp2_with fail
          refine HST.out.mono ?_
          rintro e w3 ⟨rfl, ts', n', h3, r3, f3, _⟩
          have hsr3 := HSR.out w3 _ (hrow.out.fx f3)
          have HSR3 := Lib.hid hsr3; have HH3 := Lib.hid h3; have HR3 := Lib.hid r3; have HF3 := Lib.hid (hf.out.trans f3)
          clear hsr3 h3 r3 f3 HST c0
          go_wp2_with fail
          refine HSR3.out.mono ?_
          rintro e w4 ⟨v4, rfl, ho4, hb4⟩
          have HH4 := Lib.hid (HH3.out.below hb4 (Nat.le_refl _)); have ROW4 := Lib.hid (RowT.of_own ho4)
          have HR4 := Lib.hid (show Rel ts' (setR r k a) ∧ (setR r k a).length ≤ k + 1 ∧ ∀ t ∈ setR r k a, t.2 ≤ 1000 from ⟨HR3.out, by have := setR_len r k a; have := cancelR_len r k; have := hr.out.2.1; omega, fun t ht => by
            rcases mem_setR.1 ht with rfl | ⟨h1, _⟩
            · have := HAL.out.2
              show a ≤ 1000
              omega
            · exact hr.out.2.2 t h1⟩)
          have HF4 := Lib.hid (HF3.out.trans (Fx.of_below hb4 HF3.out.bel.size (Nat.le_refl _)))
          clear ho4 hb4 HSR3
          go_wp2_with fail
          have hk1 : k + 1 ≤ N := by omega
          refine ⟨⟨k + 1, ts', setR r k a, n', hk1, by go_num, ROW4, HH4, HR4, HF4⟩, ?_⟩
          clear HH4 HR4 HF4 ROW4 hh hr hf hrow HH3 HR3 HF3 HSR HAL
          simp only [intOf]
          omega
        · have hkN : k = N := by omega
          subst hkN
          have hout1 : (k : Int) < (len0 : Int) := by omega
          have hout2 : ¬ (k : Int) < 30 := by omega
          have hr30 : r.length ≤ 30 := by have := hr.out.2.1; omega
          have HSRT := Lib.hid (srt_of hr.out.1)
          have HLE := Lib.hid hr.out.2.2
          have hst0 : Hid (Rel ts (r.drop 0)) := Lib.hid (by rw [List.drop_zero]; exact hr.out.1)
          obtain ⟨i0, hi0, hz0, hz1, hz2⟩ := info_parts info_int
          obtain ⟨A6, c6, rfl, hc6⟩ := hrow.out.len
          go_wp2_with fail
          go_loopw [11, 12, 13] (fun s11 s12 s13 wq => ∃ (i c : Nat) (now : Int) (ts : List Tm) (n : Nat) (A12 : Option Addr) (c12 : Nat), s12 = .slice A12 c c12 ∧ i ≤ M + 1 ∧ s13 = .int .i64 (i : Int) ∧ s11 = .int .i64 now ∧ (i ≤ M → -1 ≤ now ∧ now ≤ i * 100) ∧ c ≤ r.length ∧ Hid (i = M + 1 → c = r.length) ∧ Hid (wq.ownsRow w.heap.size 3 1 (.slice A12 c c12) c (((r.take c).map (·.1)).map EnI)) ∧ Hid (RowT wq (.slice A6 r.length c6) r) ∧ Hid (HP wq w.heap.size h ts n) ∧ Hid (Rel ts (r.drop c)) ∧ Hid (Fx w.heap.size w wq)) (fun _ _ s13 _ => M + 1 - (intOf s13).toNat)
          case atStart => exact ⟨0, 0, -1, ts, n, none, 0, rfl, by omega, rfl, rfl, by omega, by omega, Lib.hid (by omega), Lib.hid (World.ownsRow_nil wr w.heap.size 3 1), hrow, hh, hst0, hf⟩
          case round =>
            clear hh hrow hf hr hst0
            obtain ⟨i, c, now, ts, n, A12, c12, rfl, hi, rfl, rfl, hnow, hcr, hcl, hown, hrow, hh, hr, hf⟩ := hrel
            rcases Nat.lt_trichotomy i M with hlt | hie | hgt
            · have hin1 : (i : Int) < (len1 : Int) := by omega
              have hin2 : (i : Int) < 20 := by omega
              have hin3 : (i : Int) ≤ (len1 : Int) := by omega
              have hin4 : (i : Int) ≤ 20 := by omega
              obtain ⟨hnw1, hnw2⟩ := hnow (by omega)
              have hrd0 := HRD2.out.keep (w' := wr) (fun q hq => hf.out.bel.cell hq)
              obtain ⟨ad2, x, rfl, _, hx, c0⟩ := hrd0.num (show i < len1 by omega)
              have hxb := HMB.out x (List.mem_of_getElem? hx)
              have har := around_any x 100 wr hxb.1 hxb.2 (by omega) (by omega)
              have hal := aroundV_lt (n := x) (m := 100) (by omega)
              generalize aroundV x 100 = a at har hal
              obtain ⟨now2, hn2⟩ : ∃ z, now + a = z := ⟨_, rfl⟩
              have hnow2 : i + 1 ≤ M → -1 ≤ now2 ∧ now2 ≤ ((i + 1 : Nat) : Int) * 100 := fun _ => by omega
              have hnb : -1 ≤ now2 ∧ now2 ≤ 100000 := by omega
              have hwr : IntKind.i64.wrap (now + a) = now2 := by rw [IntWalk.i64_in _ (by omega), hn2]
              have hlast : Hid (i = M + 1 - 1 → 1000 ≤ now2) := Lib.hid (fun e => absurd e (by omega))
              have hadd := hn2
              have HAR := Lib.hid har
              clear har hal hrd0 hx hxb hn2 hadd hnw1 hnw2
              go_wp2_with fail
              refine HAR.out.mono ?_
              rintro e w2 ⟨rfl, rfl⟩
              have hdu := due_hp now2 hh.out hf.out.bel.size hr.out (by rw [hr.out.perm.length_eq, List.length_drop]; omega)
              obtain ⟨d, hd⟩ : ∃ d, d = dueN (r.drop c) now2 := ⟨_, rfl⟩
              have hdl := dueN_le (r.drop c) now2
              have hmem : ∀ t ∈ (r.drop c).take d, t.2 ≤ now2 := by rw [hd]; exact due_le
              have hcd : c + d ≤ r.length := by rw [List.length_drop] at hdl; omega
              have hfull : Hid (i + 1 = M + 1 → c + d = r.length) := Lib.hid (fun e => by
                have h9 := hlast.out (by omega)
                have := dueN_all (r := r.drop c) (now := now2) (fun t ht => Int.le_trans (HLE.out t (List.mem_of_mem_drop ht)) h9)
                rw [List.length_drop] at this
                omega)
              rw [← hd] at hdu
              obtain ⟨L, hL⟩ : ∃ L, L = ((r.drop c).take d).map (·.1) := ⟨_, rfl⟩
              have hLl : L.length = d := by rw [hL, List.length_map, List.length_take, List.length_drop]; omega
              rw [← hL] at hdu
              have HDU := Lib.hid hdu; have HMEM := Lib.hid hmem; have HL := Lib.hid hL; have HLl := Lib.hid hLl
              clear hdu hd hdl hmem hL hLl
              go_wp2_with fail
              refine HDU.out.mono ?_
              rintro e w3 ⟨v3, rfl, ho3, ts3, n3, h3, r3, f3, _⟩
              obtain ⟨A, cc, rfl, hac, hrl⟩ := ho3.slice
              have hd30 : d ≤ 30 := by omega
              rw [HLl.out] at hac hrl ⊢
              rw [List.drop_drop] at r3
              have HRL := Lib.hid hrl; have HH3 := Lib.hid h3; have HR3 := Lib.hid r3; have HF3 := Lib.hid (hf.out.trans f3)
              have ROW3 := Lib.hid (hrow.out.fx f3); have HOW3 := Lib.hid (f3.own hown.out intT_ne.1 intT_ne.2)
              have hA3 := hf.out.bel.size
              clear h3 r3 f3 ho3 hrl HDU hA3
              go_wp2_with fail
              go_loopw [15] (fun s15 wq => ∃ j : Nat, j ≤ d ∧ s15 = .int .i64 (j : Int) ∧ wq = w3) (fun s15 _ => d - (intOf s15).toNat)
              case atStart => exact ⟨0, by omega, rfl, rfl⟩
              case round =>
                obtain ⟨j, hj, rfl, rfl⟩ := hrel
                by_cases hltj : j < d
                · have hltj' : (j : Int) < (d : Int) := by omega
                  obtain ⟨ad, x, rfl, _, hx, c0⟩ := HRL.out.num hltj
                  have htx : ∃ t ∈ (r.drop c).take d, t.1 = x := by
                    have h5 := List.mem_of_getElem? hx
                    rw [HL.out] at h5
                    obtain ⟨t, ht, e⟩ := List.mem_map.1 h5
                    exact ⟨t, ht, e⟩
                  obtain ⟨⟨t1, t2⟩, ht, e⟩ := htx
                  have e' : t1 = x := e
                  subst e'
                  have htn : t2 ≤ now2 := HMEM.out _ ht
                  have hat := at_r t1 ROW3.out (by omega)
                  rw [atR_mem HSRT.out (t := (t1, t2)) (List.mem_of_mem_drop (List.mem_of_mem_take ht))] at hat
                  have HAT := Lib.hid hat
                  clear hat ht hx e
                  go_wp2_with fail
                  refine HAT.out.mono ?_
                  rintro e w5 ⟨rfl, rfl⟩
                  go_wp2_with fail
                  have hj1 : j + 1 ≤ d := by omega
                  refine ⟨⟨j + 1, hj1, by go_num, by simp⟩, ?_⟩
                  clear hnow hcl hown hrow hh hr hf HAT
                  simp only [intOf]
                  omega
                · have hjd : j = d := by omega
                  subst hjd
                  have hot : ∀ u ∈ L.map EnI, u.oneCell' = true := fun u hu => by
                    obtain ⟨x, _, rfl⟩ := List.mem_map.1 hu
                    rfl
                  obtain ⟨K, hK⟩ : ∃ K, K = (r.take c).map (·.1) := ⟨_, rfl⟩
                  have hKl : K.length = c := by rw [hK, List.length_map, List.length_take]; omega
                  have how2 := HOW3.out
                  rw [← hK] at how2
                  have hb1 : c + j ≤ maxLen := by unfold maxLen; omega
                  have hb2 : (c + j) * 8 ≤ 140737488355328 := by omega
                  have hb3 : w.heap.size ≤ wr.heap.size := HF3.out.bel.size
                  have HOT := Lib.hid hot; have HKK := Lib.hid hK; have HKl := Lib.hid hKl; have HOW := Lib.hid how2; have HB1 := Lib.hid hb1; have HB2 := Lib.hid hb2; have HB3 := Lib.hid hb3
                  clear hot hK hKl how2 hb1 hb2 hb3 HOW3
                  go_wp2_with (at_builtin; go_must (refine wpList_append_any _ rfl (.tmp 98) (.tmp 99) _ rfl w.heap.size 3 i0 _ 1 8 Try.underlying32 hi0 hz0 hz1 hz2 rfl (by omega) _ c (K.map EnI) rfl HOW.out wr.heap.size A j cc (L.map EnI) rfl HRL.out HOT.out HB1.out HB2.out HB3.out ?_))
                  intro v5 w5 hr5 hg5 hv5
                  have f5 := HF3.out.grown hg5 (own_base HOW.out) (Nat.le_refl _)
                  have h5 := HH3.out.grown HOW.out hg5 intT_ne.1 intT_ne.2
                  have row5 := ROW3.out.grown HOW.out hg5
                  have how5 : w5.ownsRow w.heap.size 3 1 v5 (c + j) (((r.take (c + j)).map (·.1)).map EnI) := by
                    rw [← take_keys, ← HKK.out, ← HL.out, List.map_append]
                    exact hr5
                  have hsh : ∃ A' c', v5 = .slice A' (c + j) c' := by
                    rcases how5.2 with ⟨e, h0⟩ | ⟨g', cap, cur, e, _⟩
                    · rw [h0] at *
                      exact ⟨none, 0, e⟩
                    · exact ⟨_, cap, e⟩
                  obtain ⟨A5, c5, rfl⟩ := hsh
                  have HF5 := Lib.hid f5; have HH5 := Lib.hid h5; have ROW5 := Lib.hid row5; have HOW5 := Lib.hid how5
                  clear hr5 hg5 hv5 f5 h5 row5 how5 HOW HRL
                  go_wp2_with fail
                  have hi1 : i + 1 ≤ M + 1 := by omega
                  refine ⟨⟨i + 1, c + j, now2, ts3, n3, A5, c5, rfl, hi1, by go_num, rfl, hnow2, hcd, hfull, HOW5, ROW5, HH5, HR3, HF5⟩, ?_⟩
                  clear hnow hnow2 hcl hown hrow hh hr hf HOW5 ROW5 HH5 HR3 HF5 HMEM HLE hlast hfull
                  simp only [intOf]
                  omega
            · have hin3 : (i : Int) ≤ (len1 : Int) := by omega
              have hin4 : (i : Int) ≤ 20 := by omega
              have hin1 : ¬ (i : Int) < (len1 : Int) := by omega
              obtain ⟨now2, hn2⟩ : ∃ z : Int, z = 100000 := ⟨_, rfl⟩
              have hnow2 : i + 1 ≤ M → -1 ≤ now2 ∧ now2 ≤ ((i + 1 : Nat) : Int) * 100 := fun _ => by omega
              have hnb : -1 ≤ now2 ∧ now2 ≤ 100000 := by omega
              have hlast : Hid (i = M + 1 - 1 → 1000 ≤ now2) := Lib.hid (fun _ => by omega)
              subst hn2
              have hdu := due_hp 100000 hh.out hf.out.bel.size hr.out (by rw [hr.out.perm.length_eq, List.length_drop]; omega)
              obtain ⟨d, hd⟩ : ∃ d, d = dueN (r.drop c) 100000 := ⟨_, rfl⟩
              have hdl := dueN_le (r.drop c) 100000
              have hmem : ∀ t ∈ (r.drop c).take d, t.2 ≤ 100000 := by rw [hd]; exact due_le
              have hcd : c + d ≤ r.length := by rw [List.length_drop] at hdl; omega
              have hfull : Hid (i + 1 = M + 1 → c + d = r.length) := Lib.hid (fun e => by
                have h9 := hlast.out (by omega)
                have := dueN_all (r := r.drop c) (now := 100000) (fun t ht => Int.le_trans (HLE.out t (List.mem_of_mem_drop ht)) h9)
                rw [List.length_drop] at this
                omega)
              rw [← hd] at hdu
              obtain ⟨L, hL⟩ : ∃ L, L = ((r.drop c).take d).map (·.1) := ⟨_, rfl⟩
              have hLl : L.length = d := by rw [hL, List.length_map, List.length_take, List.length_drop]; omega
              rw [← hL] at hdu
              have HDU := Lib.hid hdu; have HMEM := Lib.hid hmem; have HL := Lib.hid hL; have HLl := Lib.hid hLl
              clear hdu hd hdl hmem hL hLl
              go_wp2_with fail
              refine HDU.out.mono ?_
              rintro e w3 ⟨v3, rfl, ho3, ts3, n3, h3, r3, f3, _⟩
              obtain ⟨A, cc, rfl, hac, hrl⟩ := ho3.slice
              have hd30 : d ≤ 30 := by omega
              rw [HLl.out] at hac hrl ⊢
              rw [List.drop_drop] at r3
              have HRL := Lib.hid hrl; have HH3 := Lib.hid h3; have HR3 := Lib.hid r3; have HF3 := Lib.hid (hf.out.trans f3)
              have ROW3 := Lib.hid (hrow.out.fx f3); have HOW3 := Lib.hid (f3.own hown.out intT_ne.1 intT_ne.2)
              have hA3 := hf.out.bel.size
              clear h3 r3 f3 ho3 hrl HDU hA3
              go_wp2_with fail
              go_loopw [15] (fun s15 wq => ∃ j : Nat, j ≤ d ∧ s15 = .int .i64 (j : Int) ∧ wq = w3) (fun s15 _ => d - (intOf s15).toNat)
              case atStart => exact ⟨0, by omega, rfl, rfl⟩
              case round =>
                obtain ⟨j, hj, rfl, rfl⟩ := hrel
                by_cases hltj : j < d
                · have hltj' : (j : Int) < (d : Int) := by omega
                  obtain ⟨ad, x, rfl, _, hx, c0⟩ := HRL.out.num hltj
                  have htx : ∃ t ∈ (r.drop c).take d, t.1 = x := by
                    have h5 := List.mem_of_getElem? hx
                    rw [HL.out] at h5
                    obtain ⟨t, ht, e⟩ := List.mem_map.1 h5
                    exact ⟨t, ht, e⟩
                  obtain ⟨⟨t1, t2⟩, ht, e⟩ := htx
                  have e' : t1 = x := e
                  subst e'
                  have htn : t2 ≤ 100000 := HMEM.out _ ht
                  have hat := at_r t1 ROW3.out (by omega)
                  rw [atR_mem HSRT.out (t := (t1, t2)) (List.mem_of_mem_drop (List.mem_of_mem_take ht))] at hat
                  have HAT := Lib.hid hat
                  clear hat ht hx e
                  go_wp2_with fail
                  refine HAT.out.mono ?_
                  rintro e w5 ⟨rfl, rfl⟩
                  go_wp2_with fail
                  have hj1 : j + 1 ≤ d := by omega
                  refine ⟨⟨j + 1, hj1, by go_num, by simp⟩, ?_⟩
                  clear hnow hcl hown hrow hh hr hf HAT
                  simp only [intOf]
                  omega
                · have hjd : j = d := by omega
                  subst hjd
                  have hot : ∀ u ∈ L.map EnI, u.oneCell' = true := fun u hu => by
                    obtain ⟨x, _, rfl⟩ := List.mem_map.1 hu
                    rfl
                  obtain ⟨K, hK⟩ : ∃ K, K = (r.take c).map (·.1) := ⟨_, rfl⟩
                  have hKl : K.length = c := by rw [hK, List.length_map, List.length_take]; omega
                  have how2 := HOW3.out
                  rw [← hK] at how2
                  have hb1 : c + j ≤ maxLen := by unfold maxLen; omega
                  have hb2 : (c + j) * 8 ≤ 140737488355328 := by omega
                  have hb3 : w.heap.size ≤ wr.heap.size := HF3.out.bel.size
                  have HOT := Lib.hid hot; have HKK := Lib.hid hK; have HKl := Lib.hid hKl; have HOW := Lib.hid how2; have HB1 := Lib.hid hb1; have HB2 := Lib.hid hb2; have HB3 := Lib.hid hb3
                  clear hot hK hKl how2 hb1 hb2 hb3 HOW3
                  go_wp2_with (at_builtin; go_must (refine wpList_append_any _ rfl (.tmp 98) (.tmp 99) _ rfl w.heap.size 3 i0 _ 1 8 Try.underlying32 hi0 hz0 hz1 hz2 rfl (by omega) _ c (K.map EnI) rfl HOW.out wr.heap.size A j cc (L.map EnI) rfl HRL.out HOT.out HB1.out HB2.out HB3.out ?_))
                  intro v5 w5 hr5 hg5 hv5
                  have f5 := HF3.out.grown hg5 (own_base HOW.out) (Nat.le_refl _)
                  have h5 := HH3.out.grown HOW.out hg5 intT_ne.1 intT_ne.2
                  have row5 := ROW3.out.grown HOW.out hg5
                  have how5 : w5.ownsRow w.heap.size 3 1 v5 (c + j) (((r.take (c + j)).map (·.1)).map EnI) := by
                    rw [← take_keys, ← HKK.out, ← HL.out, List.map_append]
                    exact hr5
                  have hsh : ∃ A' c', v5 = .slice A' (c + j) c' := by
                    rcases how5.2 with ⟨e, h0⟩ | ⟨g', cap, cur, e, _⟩
                    · rw [h0] at *
                      exact ⟨none, 0, e⟩
                    · exact ⟨_, cap, e⟩
                  obtain ⟨A5, c5, rfl⟩ := hsh
                  have HF5 := Lib.hid f5; have HH5 := Lib.hid h5; have ROW5 := Lib.hid row5; have HOW5 := Lib.hid how5
                  clear hr5 hg5 hv5 f5 h5 row5 how5 HOW HRL
                  go_wp2_with fail
                  have hi1 : i + 1 ≤ M + 1 := by omega
                  refine ⟨⟨i + 1, c + j, 100000, ts3, n3, A5, c5, rfl, hi1, by go_num, rfl, hnow2, hcd, hfull, HOW5, ROW5, HH5, HR3, HF5⟩, ?_⟩
                  clear hnow hnow2 hcl hown hrow hh hr hf HOW5 ROW5 HH5 HR3 HF5 HMEM HLE hlast hfull
                  simp only [intOf]
                  omega
            · have hiM : i = M + 1 := by omega
              have hcl2 := hcl.out hiM
              have hout3 : ¬ (i : Int) ≤ (len1 : Int) := by omega
              have hrn : r.drop c = [] := List.drop_of_length_le (by omega)
              have hrt : r.take c = r := List.take_of_length_le (by omega)
              have hts : ts = [] := List.eq_nil_of_length_eq_zero (by rw [hr.out.perm.length_eq, hrn]; rfl)
              have ho3 : OwnI wr w.heap.size (.slice A12 c c12) (r.map (·.1)) := by
                have h8 := hown.out
                rw [hrt] at h8
                unfold OwnI
                rw [List.length_map, ← hcl2]
                exact h8
              have h3 := hh.out
              rw [hts] at h3
              have hke := keys_r hrow.out (by omega)
              have HKE := Lib.hid hke; have HO3 := Lib.hid ho3; have HH3 := Lib.hid h3
              clear hke ho3 h3 hrn hrt hts hnow hcl2
              go_wp2_with fail
              refine HKE.out.mono ?_
              rintro e w4 ⟨v4, rfl, ho4, hb4⟩
              have hsm := same_own ((Fr.of_below hb4).own HO3.out (fun j hj => by have := (HO3.out.lt j hj).2; omega)) ho4 (by rw [List.length_map]; omega)
              have hl4 := fun q => len_hp ((HH3.out.below hb4 (Nat.le_refl _)).drewN q)
              have HSM := Lib.hid hsm; have HL4 := Lib.hid hl4; have HB4 := Lib.hid hb4
              clear hsm hl4 ho4 hb4 HKE
              go_wp2_with fail
              refine HSM.out.mono ?_
              rintro e w5 ⟨rfl, q, rfl⟩
              go_wp2_with fail
              refine (HL4.out q).mono ?_
              rintro e w6 ⟨rfl, rfl⟩
              go_wp2_with fail
              refine (HLV.out _).mono ?_
              rintro e w7 ⟨rfl, hb7⟩
              have HB7 := Lib.hid hb7
              clear hb7
              go_wp2_with fail
              go_ret
              have hb47 := below_drews (HB4.out.mono (Nat.le_refl _)) q
              exact ⟨rfl, hf.out.bel.trans ((hb47.mono hf.out.bel.size).trans (HB7.out.mono (Nat.le_trans hf.out.bel.size (Nat.le_trans HB4.out.size (Nat.le_refl _)))))⟩
  · rcases Nat.lt_or_ge 20 len1 with hbig1 | hsmall1
    · obtain ⟨N, hN⟩ : ∃ N, N = len0 := ⟨_, rfl⟩
      have hN30 : N ≤ 30 := by omega
      obtain ⟨M, hM⟩ : ∃ M, M = 20 := ⟨_, rfl⟩
      have hM20 : M ≤ 20 := by omega
      have hMl : M < len1 := by omega
      go_enter Try.func5, Try.ntmps5
      go_wp2_with fail
      refine HN.out.mono ?_
      rintro e w1 ⟨h, rfl, h1, f1⟩
      have HH1 := Lib.hid h1; have HF1 := Lib.hid f1
      clear h1 f1 HN
      go_wp2_with fail
      go_loopw [6, 7] (fun s6 s7 wr => ∃ (k : Nat) (ts r : List Tm) (n : Nat), k ≤ N ∧ s7 = .int .i64 (k : Int) ∧ Hid (RowT wr s6 r) ∧ Hid (HP wr w.heap.size h ts n) ∧ Hid (Rel ts r ∧ r.length ≤ k ∧ ∀ t ∈ r, t.2 ≤ 1000) ∧ Hid (Fx w.heap.size w wr)) (fun _ s7 _ => N - (intOf s7).toNat)
      case atStart => exact ⟨0, [], [], 0, by omega, rfl, Lib.hid (RowT.nil _), HH1, Lib.hid ⟨Rel.nil, by simp, by simp⟩, HF1⟩
      case round =>
        clear HH1 HF1
        obtain ⟨k, ts, r, n, hk, rfl, hrow, hh, hr, hf⟩ := hrel
        by_cases hlt : k < N
        · have hin1 : (k : Int) < (len0 : Int) := by omega
          have hin2 : (k : Int) < 30 := by omega
          have hrd0 := HRD.out.keep (w' := wr) (fun q hq => hf.out.bel.cell hq)
          obtain ⟨ad, x, rfl, _, hx, c0⟩ := hrd0.num (show k < len0 by omega)
          have hxb := HLB.out x (List.mem_of_getElem? hx)
          have har := around_any x 1000 wr hxb.1 hxb.2 (by omega) (by omega)
          have hal := aroundV_lt (n := x) (m := 1000) (by omega)
          generalize aroundV x 1000 = a at har hal
          have hst := set_hp (k : Int) a hh.out hf.out.bel.size hr.out.1 (by rw [hr.out.1.perm.length_eq]; have := hr.out.2.1; omega)
          have hsr := fun (W : World) (v : Value) (hx : RowT W v r) => set_r (k : Int) a hx (by have := hr.out.2.1; omega)
          have HAR := Lib.hid har; have HAL := Lib.hid hal; have HST := Lib.hid hst; have HSR := Lib.hid hsr
          clear har hal hst hsr hrd0 hx hxb
          go_wp2_with fail
          refine HAR.out.mono ?_
          rintro e w2 ⟨rfl, rfl⟩
          go_wp2_with fail
          refine HST.out.mono ?_
          rintro e w3 ⟨rfl, ts', n', h3, r3, f3, _⟩
          have hsr3 := HSR.out w3 _ (hrow.out.fx f3)
          have HSR3 := Lib.hid hsr3; have HH3 := Lib.hid h3; have HR3 := Lib.hid r3; have HF3 := Lib.hid (hf.out.trans f3)
          clear hsr3 h3 r3 f3 HST c0
          go_wp2_with fail
          refine HSR3.out.mono ?_
          rintro e w4 ⟨v4, rfl, ho4, hb4⟩
          have HH4 := Lib.hid (HH3.out.below hb4 (Nat.le_refl _)); have ROW4 := Lib.hid (RowT.of_own ho4)
          have HR4 := Lib.hid (show Rel ts' (setR r k a) ∧ (setR r k a).length ≤ k + 1 ∧ ∀ t ∈ setR r k a, t.2 ≤ 1000 from ⟨HR3.out, by have := setR_len r k a; have := cancelR_len r k; have := hr.out.2.1; omega, fun t ht => by
            rcases mem_setR.1 ht with rfl | ⟨h1, _⟩
            · have := HAL.out.2
              show a ≤ 1000
              omega
            · exact hr.out.2.2 t h1⟩)
          have HF4 := Lib.hid (HF3.out.trans (Fx.of_below hb4 HF3.out.bel.size (Nat.le_refl _)))
          clear ho4 hb4 HSR3
          go_wp2_with fail
          have hk1 : k + 1 ≤ N := by omega
          refine ⟨⟨k + 1, ts', setR r k a, n', hk1, by go_num, ROW4, HH4, HR4, HF4⟩, ?_⟩
          clear HH4 HR4 HF4 ROW4 hh hr hf hrow HH3 HR3 HF3 HSR HAL
          simp only [intOf]
          omega
        · have hkN : k = N := by omega
          subst hkN
          have hout1 : ¬ (k : Int) < (len0 : Int) := by omega
          have hr30 : r.length ≤ 30 := by have := hr.out.2.1; omega
          have HSRT := Lib.hid (srt_of hr.out.1)
          have HLE := Lib.hid hr.out.2.2
          have hst0 : Hid (Rel ts (r.drop 0)) := Lib.hid (by rw [List.drop_zero]; exact hr.out.1)
          obtain ⟨i0, hi0, hz0, hz1, hz2⟩ := info_parts info_int
          obtain ⟨A6, c6, rfl, hc6⟩ := hrow.out.len
          go_wp2_with fail
          go_loopw [11, 12, 13] (fun s11 s12 s13 wq => ∃ (i c : Nat) (now : Int) (ts : List Tm) (n : Nat) (A12 : Option Addr) (c12 : Nat), s12 = .slice A12 c c12 ∧ i ≤ M + 1 ∧ s13 = .int .i64 (i : Int) ∧ s11 = .int .i64 now ∧ (i ≤ M → -1 ≤ now ∧ now ≤ i * 100) ∧ c ≤ r.length ∧ Hid (i = M + 1 → c = r.length) ∧ Hid (wq.ownsRow w.heap.size 3 1 (.slice A12 c c12) c (((r.take c).map (·.1)).map EnI)) ∧ Hid (RowT wq (.slice A6 r.length c6) r) ∧ Hid (HP wq w.heap.size h ts n) ∧ Hid (Rel ts (r.drop c)) ∧ Hid (Fx w.heap.size w wq)) (fun _ _ s13 _ => M + 1 - (intOf s13).toNat)
          case atStart => exact ⟨0, 0, -1, ts, n, none, 0, rfl, by omega, rfl, rfl, by omega, by omega, Lib.hid (by omega), Lib.hid (World.ownsRow_nil wr w.heap.size 3 1), hrow, hh, hst0, hf⟩
          case round =>
            clear hh hrow hf hr hst0
            obtain ⟨i, c, now, ts, n, A12, c12, rfl, hi, rfl, rfl, hnow, hcr, hcl, hown, hrow, hh, hr, hf⟩ := hrel
            rcases Nat.lt_trichotomy i M with hlt | hie | hgt
            · have hin1 : (i : Int) < (len1 : Int) := by omega
              have hin2 : (i : Int) < 20 := by omega
              have hin3 : (i : Int) ≤ (len1 : Int) := by omega
              have hin4 : (i : Int) ≤ 20 := by omega
              obtain ⟨hnw1, hnw2⟩ := hnow (by omega)
              have hrd0 := HRD2.out.keep (w' := wr) (fun q hq => hf.out.bel.cell hq)
              obtain ⟨ad2, x, rfl, _, hx, c0⟩ := hrd0.num (show i < len1 by omega)
              have hxb := HMB.out x (List.mem_of_getElem? hx)
              have har := around_any x 100 wr hxb.1 hxb.2 (by omega) (by omega)
              have hal := aroundV_lt (n := x) (m := 100) (by omega)
              generalize aroundV x 100 = a at har hal
              obtain ⟨now2, hn2⟩ : ∃ z, now + a = z := ⟨_, rfl⟩
              have hnow2 : i + 1 ≤ M → -1 ≤ now2 ∧ now2 ≤ ((i + 1 : Nat) : Int) * 100 := fun _ => by omega
              have hnb : -1 ≤ now2 ∧ now2 ≤ 100000 := by omega
              have hwr : IntKind.i64.wrap (now + a) = now2 := by rw [IntWalk.i64_in _ (by omega), hn2]
              have hlast : Hid (i = M + 1 - 1 → 1000 ≤ now2) := Lib.hid (fun e => absurd e (by omega))
              have hadd := hn2
              have HAR := Lib.hid har
              clear har hal hrd0 hx hxb hn2 hadd hnw1 hnw2
              go_wp2_with fail
              refine HAR.out.mono ?_
              rintro e w2 ⟨rfl, rfl⟩
              have hdu := due_hp now2 hh.out hf.out.bel.size hr.out (by rw [hr.out.perm.length_eq, List.length_drop]; omega)
              obtain ⟨d, hd⟩ : ∃ d, d = dueN (r.drop c) now2 := ⟨_, rfl⟩
              have hdl := dueN_le (r.drop c) now2
              have hmem : ∀ t ∈ (r.drop c).take d, t.2 ≤ now2 := by rw [hd]; exact due_le
              have hcd : c + d ≤ r.length := by rw [List.length_drop] at hdl; omega
              have hfull : Hid (i + 1 = M + 1 → c + d = r.length) := Lib.hid (fun e => by
                have h9 := hlast.out (by omega)
                have := dueN_all (r := r.drop c) (now := now2) (fun t ht => Int.le_trans (HLE.out t (List.mem_of_mem_drop ht)) h9)
                rw [List.length_drop] at this
                omega)
              rw [← hd] at hdu
              obtain ⟨L, hL⟩ : ∃ L, L = ((r.drop c).take d).map (·.1) := ⟨_, rfl⟩
              have hLl : L.length = d := by rw [hL, List.length_map, List.length_take, List.length_drop]; omega
              rw [← hL] at hdu
              have HDU := Lib.hid hdu; have HMEM := Lib.hid hmem; have HL := Lib.hid hL; have HLl := Lib.hid hLl
              clear hdu hd hdl hmem hL hLl
              go_wp2_with fail
              refine HDU.out.mono ?_
              rintro e w3 ⟨v3, rfl, ho3, ts3, n3, h3, r3, f3, _⟩
              obtain ⟨A, cc, rfl, hac, hrl⟩ := ho3.slice
              have hd30 : d ≤ 30 := by omega
              rw [HLl.out] at hac hrl ⊢
              rw [List.drop_drop] at r3
              have HRL := Lib.hid hrl; have HH3 := Lib.hid h3; have HR3 := Lib.hid r3; have HF3 := Lib.hid (hf.out.trans f3)
              have ROW3 := Lib.hid (hrow.out.fx f3); have HOW3 := Lib.hid (f3.own hown.out intT_ne.1 intT_ne.2)
              have hA3 := hf.out.bel.size
              clear h3 r3 f3 ho3 hrl HDU hA3
              go_wp2_with fail
              go_loopw [15] (fun s15 wq => ∃ j : Nat, j ≤ d ∧ s15 = .int .i64 (j : Int) ∧ wq = w3) (fun s15 _ => d - (intOf s15).toNat)
              case atStart => exact ⟨0, by omega, rfl, rfl⟩
              case round =>
                obtain ⟨j, hj, rfl, rfl⟩ := hrel
                by_cases hltj : j < d
                · have hltj' : (j : Int) < (d : Int) := by omega
                  obtain ⟨ad, x, rfl, _, hx, c0⟩ := HRL.out.num hltj
                  have htx : ∃ t ∈ (r.drop c).take d, t.1 = x := by
                    have h5 := List.mem_of_getElem? hx
                    rw [HL.out] at h5
                    obtain ⟨t, ht, e⟩ := List.mem_map.1 h5
                    exact ⟨t, ht, e⟩
                  obtain ⟨⟨t1, t2⟩, ht, e⟩ := htx
                  have e' : t1 = x := e
                  subst e'
                  have htn : t2 ≤ now2 := HMEM.out _ ht
                  have hat := at_r t1 ROW3.out (by omega)
                  rw [atR_mem HSRT.out (t := (t1, t2)) (List.mem_of_mem_drop (List.mem_of_mem_take ht))] at hat
                  have HAT := Lib.hid hat
                  clear hat ht hx e
                  go_wp2_with fail
                  refine HAT.out.mono ?_
                  rintro e w5 ⟨rfl, rfl⟩
                  go_wp2_with fail
                  have hj1 : j + 1 ≤ d := by omega
                  refine ⟨⟨j + 1, hj1, by go_num, by simp⟩, ?_⟩
                  clear hnow hcl hown hrow hh hr hf HAT
                  simp only [intOf]
                  omega
                · have hjd : j = d := by omega
                  subst hjd
                  have hot : ∀ u ∈ L.map EnI, u.oneCell' = true := fun u hu => by
                    obtain ⟨x, _, rfl⟩ := List.mem_map.1 hu
                    rfl
                  obtain ⟨K, hK⟩ : ∃ K, K = (r.take c).map (·.1) := ⟨_, rfl⟩
                  have hKl : K.length = c := by rw [hK, List.length_map, List.length_take]; omega
                  have how2 := HOW3.out
                  rw [← hK] at how2
                  have hb1 : c + j ≤ maxLen := by unfold maxLen; omega
                  have hb2 : (c + j) * 8 ≤ 140737488355328 := by omega
                  have hb3 : w.heap.size ≤ wr.heap.size := HF3.out.bel.size
                  have HOT := Lib.hid hot; have HKK := Lib.hid hK; have HKl := Lib.hid hKl; have HOW := Lib.hid how2; have HB1 := Lib.hid hb1; have HB2 := Lib.hid hb2; have HB3 := Lib.hid hb3
                  clear hot hK hKl how2 hb1 hb2 hb3 HOW3
                  go_wp2_with (at_builtin; go_must (refine wpList_append_any _ rfl (.tmp 98) (.tmp 99) _ rfl w.heap.size 3 i0 _ 1 8 Try.underlying32 hi0 hz0 hz1 hz2 rfl (by omega) _ c (K.map EnI) rfl HOW.out wr.heap.size A j cc (L.map EnI) rfl HRL.out HOT.out HB1.out HB2.out HB3.out ?_))
                  intro v5 w5 hr5 hg5 hv5
                  have f5 := HF3.out.grown hg5 (own_base HOW.out) (Nat.le_refl _)
                  have h5 := HH3.out.grown HOW.out hg5 intT_ne.1 intT_ne.2
                  have row5 := ROW3.out.grown HOW.out hg5
                  have how5 : w5.ownsRow w.heap.size 3 1 v5 (c + j) (((r.take (c + j)).map (·.1)).map EnI) := by
                    rw [← take_keys, ← HKK.out, ← HL.out, List.map_append]
                    exact hr5
                  have hsh : ∃ A' c', v5 = .slice A' (c + j) c' := by
                    rcases how5.2 with ⟨e, h0⟩ | ⟨g', cap, cur, e, _⟩
                    · rw [h0] at *
                      exact ⟨none, 0, e⟩
                    · exact ⟨_, cap, e⟩
                  obtain ⟨A5, c5, rfl⟩ := hsh
                  have HF5 := Lib.hid f5; have HH5 := Lib.hid h5; have ROW5 := Lib.hid row5; have HOW5 := Lib.hid how5
                  clear hr5 hg5 hv5 f5 h5 row5 how5 HOW HRL
                  go_wp2_with fail
                  have hi1 : i + 1 ≤ M + 1 := by omega
                  refine ⟨⟨i + 1, c + j, now2, ts3, n3, A5, c5, rfl, hi1, by go_num, rfl, hnow2, hcd, hfull, HOW5, ROW5, HH5, HR3, HF5⟩, ?_⟩
                  clear hnow hnow2 hcl hown hrow hh hr hf HOW5 ROW5 HH5 HR3 HF5 HMEM HLE hlast hfull
                  simp only [intOf]
                  omega
            · have hin3 : (i : Int) ≤ (len1 : Int) := by omega
              have hin4 : (i : Int) ≤ 20 := by omega
              have hin1 : (i : Int) < (len1 : Int) := by omega
              have hin2 : ¬ (i : Int) < 20 := by omega
              obtain ⟨now2, hn2⟩ : ∃ z : Int, z = 100000 := ⟨_, rfl⟩
              have hnow2 : i + 1 ≤ M → -1 ≤ now2 ∧ now2 ≤ ((i + 1 : Nat) : Int) * 100 := fun _ => by omega
              have hnb : -1 ≤ now2 ∧ now2 ≤ 100000 := by omega
              have hlast : Hid (i = M + 1 - 1 → 1000 ≤ now2) := Lib.hid (fun _ => by omega)
              subst hn2
              have hdu := due_hp 100000 hh.out hf.out.bel.size hr.out (by rw [hr.out.perm.length_eq, List.length_drop]; omega)
              obtain ⟨d, hd⟩ : ∃ d, d = dueN (r.drop c) 100000 := ⟨_, rfl⟩
              have hdl := dueN_le (r.drop c) 100000
              have hmem : ∀ t ∈ (r.drop c).take d, t.2 ≤ 100000 := by rw [hd]; exact due_le
              have hcd : c + d ≤ r.length := by rw [List.length_drop] at hdl; omega
              have hfull : Hid (i + 1 = M + 1 → c + d = r.length) := Lib.hid (fun e => by
                have h9 := hlast.out (by omega)
                have := dueN_all (r := r.drop c) (now := 100000) (fun t ht => Int.le_trans (HLE.out t (List.mem_of_mem_drop ht)) h9)
                rw [List.length_drop] at this
                omega)
              rw [← hd] at hdu
              obtain ⟨L, hL⟩ : ∃ L, L = ((r.drop c).take d).map (·.1) := ⟨_, rfl⟩
              have hLl : L.length = d := by rw [hL, List.length_map, List.length_take, List.length_drop]; omega
              rw [← hL] at hdu
              have HDU := Lib.hid hdu; have HMEM := Lib.hid hmem; have HL := Lib.hid hL; have HLl := Lib.hid hLl
              clear hdu hd hdl hmem hL hLl
              go_wp2_with fail
              refine HDU.out.mono ?_
              rintro e w3 ⟨v3, rfl, ho3, ts3, n3, h3, r3, f3, _⟩
              obtain ⟨A, cc, rfl, hac, hrl⟩ := ho3.slice
              have hd30 : d ≤ 30 := by omega
              rw [HLl.out] at hac hrl ⊢
              rw [List.drop_drop] at r3
              have HRL := Lib.hid hrl; have HH3 := Lib.hid h3; have HR3 := Lib.hid r3; have HF3 := Lib.hid (hf.out.trans f3)
              have ROW3 := Lib.hid (hrow.out.fx f3); have HOW3 := Lib.hid (f3.own hown.out intT_ne.1 intT_ne.2)
              have hA3 := hf.out.bel.size
              clear h3 r3 f3 ho3 hrl HDU hA3
              go_wp2_with fail
              go_loopw [15] (fun s15 wq => ∃ j : Nat, j ≤ d ∧ s15 = .int .i64 (j : Int) ∧ wq = w3) (fun s15 _ => d - (intOf s15).toNat)
              case atStart => exact ⟨0, by omega, rfl, rfl⟩
              case round =>
                obtain ⟨j, hj, rfl, rfl⟩ := hrel
                by_cases hltj : j < d
                · have hltj' : (j : Int) < (d : Int) := by omega
                  obtain ⟨ad, x, rfl, _, hx, c0⟩ := HRL.out.num hltj
                  have htx : ∃ t ∈ (r.drop c).take d, t.1 = x := by
                    have h5 := List.mem_of_getElem? hx
                    rw [HL.out] at h5
                    obtain ⟨t, ht, e⟩ := List.mem_map.1 h5
                    exact ⟨t, ht, e⟩
                  obtain ⟨⟨t1, t2⟩, ht, e⟩ := htx
                  have e' : t1 = x := e
                  subst e'
                  have htn : t2 ≤ 100000 := HMEM.out _ ht
                  have hat := at_r t1 ROW3.out (by omega)
                  rw [atR_mem HSRT.out (t := (t1, t2)) (List.mem_of_mem_drop (List.mem_of_mem_take ht))] at hat
                  have HAT := Lib.hid hat
                  clear hat ht hx e
                  go_wp2_with fail
                  refine HAT.out.mono ?_
                  rintro e w5 ⟨rfl, rfl⟩
                  go_wp2_with fail
                  have hj1 : j + 1 ≤ d := by omega
                  refine ⟨⟨j + 1, hj1, by go_num, by simp⟩, ?_⟩
                  clear hnow hcl hown hrow hh hr hf HAT
                  simp only [intOf]
                  omega
                · have hjd : j = d := by omega
                  subst hjd
                  have hot : ∀ u ∈ L.map EnI, u.oneCell' = true := fun u hu => by
                    obtain ⟨x, _, rfl⟩ := List.mem_map.1 hu
                    rfl
                  obtain ⟨K, hK⟩ : ∃ K, K = (r.take c).map (·.1) := ⟨_, rfl⟩
                  have hKl : K.length = c := by rw [hK, List.length_map, List.length_take]; omega
                  have how2 := HOW3.out
                  rw [← hK] at how2
                  have hb1 : c + j ≤ maxLen := by unfold maxLen; omega
                  have hb2 : (c + j) * 8 ≤ 140737488355328 := by omega
                  have hb3 : w.heap.size ≤ wr.heap.size := HF3.out.bel.size
                  have HOT := Lib.hid hot; have HKK := Lib.hid hK; have HKl := Lib.hid hKl; have HOW := Lib.hid how2; have HB1 := Lib.hid hb1; have HB2 := Lib.hid hb2; have HB3 := Lib.hid hb3
                  clear hot hK hKl how2 hb1 hb2 hb3 HOW3
                  go_wp2_with (at_builtin; go_must (refine wpList_append_any _ rfl (.tmp 98) (.tmp 99) _ rfl w.heap.size 3 i0 _ 1 8 Try.underlying32 hi0 hz0 hz1 hz2 rfl (by omega) _ c (K.map EnI) rfl HOW.out wr.heap.size A j cc (L.map EnI) rfl HRL.out HOT.out HB1.out HB2.out HB3.out ?_))
                  intro v5 w5 hr5 hg5 hv5
                  have f5 := HF3.out.grown hg5 (own_base HOW.out) (Nat.le_refl _)
                  have h5 := HH3.out.grown HOW.out hg5 intT_ne.1 intT_ne.2
                  have row5 := ROW3.out.grown HOW.out hg5
                  have how5 : w5.ownsRow w.heap.size 3 1 v5 (c + j) (((r.take (c + j)).map (·.1)).map EnI) := by
                    rw [← take_keys, ← HKK.out, ← HL.out, List.map_append]
                    exact hr5
                  have hsh : ∃ A' c', v5 = .slice A' (c + j) c' := by
                    rcases how5.2 with ⟨e, h0⟩ | ⟨g', cap, cur, e, _⟩
                    · rw [h0] at *
                      exact ⟨none, 0, e⟩
                    · exact ⟨_, cap, e⟩
                  obtain ⟨A5, c5, rfl⟩ := hsh
                  have HF5 := Lib.hid f5; have HH5 := Lib.hid h5; have ROW5 := Lib.hid row5; have HOW5 := Lib.hid how5
                  clear hr5 hg5 hv5 f5 h5 row5 how5 HOW HRL
                  go_wp2_with fail
                  have hi1 : i + 1 ≤ M + 1 := by omega
                  refine ⟨⟨i + 1, c + j, 100000, ts3, n3, A5, c5, rfl, hi1, by go_num, rfl, hnow2, hcd, hfull, HOW5, ROW5, HH5, HR3, HF5⟩, ?_⟩
                  clear hnow hnow2 hcl hown hrow hh hr hf HOW5 ROW5 HH5 HR3 HF5 HMEM HLE hlast hfull
                  simp only [intOf]
                  omega
            · have hiM : i = M + 1 := by omega
              have hcl2 := hcl.out hiM
              have hout3 : (i : Int) ≤ (len1 : Int) := by omega
              have hout4 : ¬ (i : Int) ≤ 20 := by omega
              have hrn : r.drop c = [] := List.drop_of_length_le (by omega)
              have hrt : r.take c = r := List.take_of_length_le (by omega)
              have hts : ts = [] := List.eq_nil_of_length_eq_zero (by rw [hr.out.perm.length_eq, hrn]; rfl)
              have ho3 : OwnI wr w.heap.size (.slice A12 c c12) (r.map (·.1)) := by
                have h8 := hown.out
                rw [hrt] at h8
                unfold OwnI
                rw [List.length_map, ← hcl2]
                exact h8
              have h3 := hh.out
              rw [hts] at h3
              have hke := keys_r hrow.out (by omega)
              have HKE := Lib.hid hke; have HO3 := Lib.hid ho3; have HH3 := Lib.hid h3
              clear hke ho3 h3 hrn hrt hts hnow hcl2
              go_wp2_with fail
              refine HKE.out.mono ?_
              rintro e w4 ⟨v4, rfl, ho4, hb4⟩
              have hsm := same_own ((Fr.of_below hb4).own HO3.out (fun j hj => by have := (HO3.out.lt j hj).2; omega)) ho4 (by rw [List.length_map]; omega)
              have hl4 := fun q => len_hp ((HH3.out.below hb4 (Nat.le_refl _)).drewN q)
              have HSM := Lib.hid hsm; have HL4 := Lib.hid hl4; have HB4 := Lib.hid hb4
              clear hsm hl4 ho4 hb4 HKE
              go_wp2_with fail
              refine HSM.out.mono ?_
              rintro e w5 ⟨rfl, q, rfl⟩
              go_wp2_with fail
              refine (HL4.out q).mono ?_
              rintro e w6 ⟨rfl, rfl⟩
              go_wp2_with fail
              refine (HLV.out _).mono ?_
              rintro e w7 ⟨rfl, hb7⟩
              have HB7 := Lib.hid hb7
              clear hb7
              go_wp2_with fail
              go_ret
              have hb47 := below_drews (HB4.out.mono (Nat.le_refl _)) q
              exact ⟨rfl, hf.out.bel.trans ((hb47.mono hf.out.bel.size).trans (HB7.out.mono (Nat.le_trans hf.out.bel.size (Nat.le_trans HB4.out.size (Nat.le_refl _)))))⟩
    · obtain ⟨N, hN⟩ : ∃ N, N = len0 := ⟨_, rfl⟩
      have hN30 : N ≤ 30 := by omega
      obtain ⟨M, hM⟩ : ∃ M, M = len1 := ⟨_, rfl⟩
      have hM20 : M ≤ 20 := by omega
      go_enter Try.func5, Try.ntmps5
      go_wp2_with fail
      refine HN.out.mono ?_
      rintro e w1 ⟨h, rfl, h1, f1⟩
      have HH1 := Lib.hid h1; have HF1 := Lib.hid f1
      clear h1 f1 HN
      go_wp2_with fail
      go_loopw [6, 7] (fun s6 s7 wr => ∃ (k : Nat) (ts r : List Tm) (n : Nat), k ≤ N ∧ s7 = .int .i64 (k : Int) ∧ Hid (RowT wr s6 r) ∧ Hid (HP wr w.heap.size h ts n) ∧ Hid (Rel ts r ∧ r.length ≤ k ∧ ∀ t ∈ r, t.2 ≤ 1000) ∧ Hid (Fx w.heap.size w wr)) (fun _ s7 _ => N - (intOf s7).toNat)
      case atStart => exact ⟨0, [], [], 0, by omega, rfl, Lib.hid (RowT.nil _), HH1, Lib.hid ⟨Rel.nil, by simp, by simp⟩, HF1⟩
      case round =>
        clear HH1 HF1
        obtain ⟨k, ts, r, n, hk, rfl, hrow, hh, hr, hf⟩ := hrel
        by_cases hlt : k < N
        · have hin1 : (k : Int) < (len0 : Int) := by omega
          have hin2 : (k : Int) < 30 := by omega
          have hrd0 := HRD.out.keep (w' := wr) (fun q hq => hf.out.bel.cell hq)
          obtain ⟨ad, x, rfl, _, hx, c0⟩ := hrd0.num (show k < len0 by omega)
          have hxb := HLB.out x (List.mem_of_getElem? hx)
          have har := around_any x 1000 wr hxb.1 hxb.2 (by omega) (by omega)
          have hal := aroundV_lt (n := x) (m := 1000) (by omega)
          generalize aroundV x 1000 = a at har hal
          have hst := set_hp (k : Int) a hh.out hf.out.bel.size hr.out.1 (by rw [hr.out.1.perm.length_eq]; have := hr.out.2.1; omega)
          have hsr := fun (W : World) (v : Value) (hx : RowT W v r) => set_r (k : Int) a hx (by have := hr.out.2.1; omega)
          have HAR := Lib.hid har; have HAL := Lib.hid hal; have HST := Lib.hid hst; have HSR := Lib.hid hsr
          clear har hal hst hsr hrd0 hx hxb
          go_wp2_with fail
          refine HAR.out.mono ?_
          rintro e w2 ⟨rfl, rfl⟩
          go_wp2_with fail
          refine HST.out.mono ?_
          rintro e w3 ⟨rfl, ts', n', h3, r3, f3, _⟩
          have hsr3 := HSR.out w3 _ (hrow.out.fx f3)
          have HSR3 := Lib.hid hsr3; have HH3 := Lib.hid h3; have HR3 := Lib.hid r3; have HF3 := Lib.hid (hf.out.trans f3)
          clear hsr3 h3 r3 f3 HST c0
          go_wp2_with fail
          refine HSR3.out.mono ?_
          rintro e w4 ⟨v4, rfl, ho4, hb4⟩
          have HH4 := Lib.hid (HH3.out.below hb4 (Nat.le_refl _)); have ROW4 := Lib.hid (RowT.of_own ho4)
          have HR4 := Lib.hid (show Rel ts' (setR r k a) ∧ (setR r k a).length ≤ k + 1 ∧ ∀ t ∈ setR r k a, t.2 ≤ 1000 from ⟨HR3.out, by have := setR_len r k a; have := cancelR_len r k; have := hr.out.2.1; omega, fun t ht => by
            rcases mem_setR.1 ht with rfl | ⟨h1, _⟩
            · have := HAL.out.2
              show a ≤ 1000
              omega
            · exact hr.out.2.2 t h1⟩)
          have HF4 := Lib.hid (HF3.out.trans (Fx.of_below hb4 HF3.out.bel.size (Nat.le_refl _)))
          clear ho4 hb4 HSR3
          go_wp2_with fail
          have hk1 : k + 1 ≤ N := by omega
          refine ⟨⟨k + 1, ts', setR r k a, n', hk1, by go_num, ROW4, HH4, HR4, HF4⟩, ?_⟩
          clear HH4 HR4 HF4 ROW4 hh hr hf hrow HH3 HR3 HF3 HSR HAL
          simp only [intOf]
          omega
        · have hkN : k = N := by omega
          subst hkN
          have hout1 : ¬ (k : Int) < (len0 : Int) := by omega
          have hr30 : r.length ≤ 30 := by have := hr.out.2.1; omega
          have HSRT := Lib.hid (srt_of hr.out.1)
          have HLE := Lib.hid hr.out.2.2
          have hst0 : Hid (Rel ts (r.drop 0)) := Lib.hid (by rw [List.drop_zero]; exact hr.out.1)
          obtain ⟨i0, hi0, hz0, hz1, hz2⟩ := info_parts info_int
          obtain ⟨A6, c6, rfl, hc6⟩ := hrow.out.len
          go_wp2_with fail
          go_loopw [11, 12, 13] (fun s11 s12 s13 wq => ∃ (i c : Nat) (now : Int) (ts : List Tm) (n : Nat) (A12 : Option Addr) (c12 : Nat), s12 = .slice A12 c c12 ∧ i ≤ M + 1 ∧ s13 = .int .i64 (i : Int) ∧ s11 = .int .i64 now ∧ (i ≤ M → -1 ≤ now ∧ now ≤ i * 100) ∧ c ≤ r.length ∧ Hid (i = M + 1 → c = r.length) ∧ Hid (wq.ownsRow w.heap.size 3 1 (.slice A12 c c12) c (((r.take c).map (·.1)).map EnI)) ∧ Hid (RowT wq (.slice A6 r.length c6) r) ∧ Hid (HP wq w.heap.size h ts n) ∧ Hid (Rel ts (r.drop c)) ∧ Hid (Fx w.heap.size w wq)) (fun _ _ s13 _ => M + 1 - (intOf s13).toNat)
          case atStart => exact ⟨0, 0, -1, ts, n, none, 0, rfl, by omega, rfl, rfl, by omega, by omega, Lib.hid (by omega), Lib.hid (World.ownsRow_nil wr w.heap.size 3 1), hrow, hh, hst0, hf⟩
          case round =>
            clear hh hrow hf hr hst0
            obtain ⟨i, c, now, ts, n, A12, c12, rfl, hi, rfl, rfl, hnow, hcr, hcl, hown, hrow, hh, hr, hf⟩ := hrel
            rcases Nat.lt_trichotomy i M with hlt | hie | hgt
            · have hin1 : (i : Int) < (len1 : Int) := by omega
              have hin2 : (i : Int) < 20 := by omega
              have hin3 : (i : Int) ≤ (len1 : Int) := by omega
              have hin4 : (i : Int) ≤ 20 := by omega
              obtain ⟨hnw1, hnw2⟩ := hnow (by omega)
              have hrd0 := HRD2.out.keep (w' := wr) (fun q hq => hf.out.bel.cell hq)
              obtain ⟨ad2, x, rfl, _, hx, c0⟩ := hrd0.num (show i < len1 by omega)
              have hxb := HMB.out x (List.mem_of_getElem? hx)
              have har := around_any x 100 wr hxb.1 hxb.2 (by omega) (by omega)
              have hal := aroundV_lt (n := x) (m := 100) (by omega)
              generalize aroundV x 100 = a at har hal
              obtain ⟨now2, hn2⟩ : ∃ z, now + a = z := ⟨_, rfl⟩
              have hnow2 : i + 1 ≤ M → -1 ≤ now2 ∧ now2 ≤ ((i + 1 : Nat) : Int) * 100 := fun _ => by omega
              have hnb : -1 ≤ now2 ∧ now2 ≤ 100000 := by omega
              have hwr : IntKind.i64.wrap (now + a) = now2 := by rw [IntWalk.i64_in _ (by omega), hn2]
              have hlast : Hid (i = M + 1 - 1 → 1000 ≤ now2) := Lib.hid (fun e => absurd e (by omega))
              have hadd := hn2
              have HAR := Lib.hid har
              clear har hal hrd0 hx hxb hn2 hadd hnw1 hnw2
              go_wp2_with fail
              refine HAR.out.mono ?_
              rintro e w2 ⟨rfl, rfl⟩
              have hdu := due_hp now2 hh.out hf.out.bel.size hr.out (by rw [hr.out.perm.length_eq, List.length_drop]; omega)
              obtain ⟨d, hd⟩ : ∃ d, d = dueN (r.drop c) now2 := ⟨_, rfl⟩
              have hdl := dueN_le (r.drop c) now2
              have hmem : ∀ t ∈ (r.drop c).take d, t.2 ≤ now2 := by rw [hd]; exact due_le
              have hcd : c + d ≤ r.length := by rw [List.length_drop] at hdl; omega
              have hfull : Hid (i + 1 = M + 1 → c + d = r.length) := Lib.hid (fun e => by
                have h9 := hlast.out (by omega)
                have := dueN_all (r := r.drop c) (now := now2) (fun t ht => Int.le_trans (HLE.out t (List.mem_of_mem_drop ht)) h9)
                rw [List.length_drop] at this
                omega)
              rw [← hd] at hdu
              obtain ⟨L, hL⟩ : ∃ L, L = ((r.drop c).take d).map (·.1) := ⟨_, rfl⟩
              have hLl : L.length = d := by rw [hL, List.length_map, List.length_take, List.length_drop]; omega
              rw [← hL] at hdu
              have HDU := Lib.hid hdu; have HMEM := Lib.hid hmem; have HL := Lib.hid hL; have HLl := Lib.hid hLl
              clear hdu hd hdl hmem hL hLl
              go_wp2_with fail
              refine HDU.out.mono ?_
              rintro e w3 ⟨v3, rfl, ho3, ts3, n3, h3, r3, f3, _⟩
              obtain ⟨A, cc, rfl, hac, hrl⟩ := ho3.slice
              have hd30 : d ≤ 30 := by omega
              rw [HLl.out] at hac hrl ⊢
              rw [List.drop_drop] at r3
              have HRL := Lib.hid hrl; have HH3 := Lib.hid h3; have HR3 := Lib.hid r3; have HF3 := Lib.hid (hf.out.trans f3)
              have ROW3 := Lib.hid (hrow.out.fx f3); have HOW3 := Lib.hid (f3.own hown.out intT_ne.1 intT_ne.2)
              have hA3 := hf.out.bel.size
              clear h3 r3 f3 ho3 hrl HDU hA3
              go_wp2_with fail
              go_loopw [15] (fun s15 wq => ∃ j : Nat, j ≤ d ∧ s15 = .int .i64 (j : Int) ∧ wq = w3) (fun s15 _ => d - (intOf s15).toNat)
              case atStart => exact ⟨0, by omega, rfl, rfl⟩
              case round =>
                obtain ⟨j, hj, rfl, rfl⟩ := hrel
                by_cases hltj : j < d
                · have hltj' : (j : Int) < (d : Int) := by omega
                  obtain ⟨ad, x, rfl, _, hx, c0⟩ := HRL.out.num hltj
                  have htx : ∃ t ∈ (r.drop c).take d, t.1 = x := by
                    have h5 := List.mem_of_getElem? hx
                    rw [HL.out] at h5
                    obtain ⟨t, ht, e⟩ := List.mem_map.1 h5
                    exact ⟨t, ht, e⟩
                  obtain ⟨⟨t1, t2⟩, ht, e⟩ := htx
                  have e' : t1 = x := e
                  subst e'
                  have htn : t2 ≤ now2 := HMEM.out _ ht
                  have hat := at_r t1 ROW3.out (by omega)
                  rw [atR_mem HSRT.out (t := (t1, t2)) (List.mem_of_mem_drop (List.mem_of_mem_take ht))] at hat
                  have HAT := Lib.hid hat
                  clear hat ht hx e
                  go_wp2_with fail
                  refine HAT.out.mono ?_
                  rintro e w5 ⟨rfl, rfl⟩
                  go_wp2_with fail
                  have hj1 : j + 1 ≤ d := by omega
                  refine ⟨⟨j + 1, hj1, by go_num, by simp⟩, ?_⟩
                  clear hnow hcl hown hrow hh hr hf HAT
                  simp only [intOf]
                  omega
                · have hjd : j = d := by omega
                  subst hjd
                  have hot : ∀ u ∈ L.map EnI, u.oneCell' = true := fun u hu => by
                    obtain ⟨x, _, rfl⟩ := List.mem_map.1 hu
                    rfl
                  obtain ⟨K, hK⟩ : ∃ K, K = (r.take c).map (·.1) := ⟨_, rfl⟩
                  have hKl : K.length = c := by rw [hK, List.length_map, List.length_take]; omega
                  have how2 := HOW3.out
                  rw [← hK] at how2
                  have hb1 : c + j ≤ maxLen := by unfold maxLen; omega
                  have hb2 : (c + j) * 8 ≤ 140737488355328 := by omega
                  have hb3 : w.heap.size ≤ wr.heap.size := HF3.out.bel.size
                  have HOT := Lib.hid hot; have HKK := Lib.hid hK; have HKl := Lib.hid hKl; have HOW := Lib.hid how2; have HB1 := Lib.hid hb1; have HB2 := Lib.hid hb2; have HB3 := Lib.hid hb3
                  clear hot hK hKl how2 hb1 hb2 hb3 HOW3
                  go_wp2_with (at_builtin; go_must (refine wpList_append_any _ rfl (.tmp 98) (.tmp 99) _ rfl w.heap.size 3 i0 _ 1 8 Try.underlying32 hi0 hz0 hz1 hz2 rfl (by omega) _ c (K.map EnI) rfl HOW.out wr.heap.size A j cc (L.map EnI) rfl HRL.out HOT.out HB1.out HB2.out HB3.out ?_))
                  intro v5 w5 hr5 hg5 hv5
                  have f5 := HF3.out.grown hg5 (own_base HOW.out) (Nat.le_refl _)
                  have h5 := HH3.out.grown HOW.out hg5 intT_ne.1 intT_ne.2
                  have row5 := ROW3.out.grown HOW.out hg5
                  have how5 : w5.ownsRow w.heap.size 3 1 v5 (c + j) (((r.take (c + j)).map (·.1)).map EnI) := by
                    rw [← take_keys, ← HKK.out, ← HL.out, List.map_append]
                    exact hr5
                  have hsh : ∃ A' c', v5 = .slice A' (c + j) c' := by
                    rcases how5.2 with ⟨e, h0⟩ | ⟨g', cap, cur, e, _⟩
                    · rw [h0] at *
                      exact ⟨none, 0, e⟩
                    · exact ⟨_, cap, e⟩
                  obtain ⟨A5, c5, rfl⟩ := hsh
                  have HF5 := Lib.hid f5; have HH5 := Lib.hid h5; have ROW5 := Lib.hid row5; have HOW5 := Lib.hid how5
                  clear hr5 hg5 hv5 f5 h5 row5 how5 HOW HRL
                  go_wp2_with fail
                  have hi1 : i + 1 ≤ M + 1 := by omega
                  refine ⟨⟨i + 1, c + j, now2, ts3, n3, A5, c5, rfl, hi1, by go_num, rfl, hnow2, hcd, hfull, HOW5, ROW5, HH5, HR3, HF5⟩, ?_⟩
                  clear hnow hnow2 hcl hown hrow hh hr hf HOW5 ROW5 HH5 HR3 HF5 HMEM HLE hlast hfull
                  simp only [intOf]
                  omega
            · have hin3 : (i : Int) ≤ (len1 : Int) := by omega
              have hin4 : (i : Int) ≤ 20 := by omega
              have hin1 : ¬ (i : Int) < (len1 : Int) := by omega
              obtain ⟨now2, hn2⟩ : ∃ z : Int, z = 100000 := ⟨_, rfl⟩
              have hnow2 : i + 1 ≤ M → -1 ≤ now2 ∧ now2 ≤ ((i + 1 : Nat) : Int) * 100 := fun _ => by omega
              have hnb : -1 ≤ now2 ∧ now2 ≤ 100000 := by omega
              have hlast : Hid (i = M + 1 - 1 → 1000 ≤ now2) := Lib.hid (fun _ => by omega)
              subst hn2
              have hdu := due_hp 100000 hh.out hf.out.bel.size hr.out (by rw [hr.out.perm.length_eq, List.length_drop]; omega)
              obtain ⟨d, hd⟩ : ∃ d, d = dueN (r.drop c) 100000 := ⟨_, rfl⟩
              have hdl := dueN_le (r.drop c) 100000
              have hmem : ∀ t ∈ (r.drop c).take d, t.2 ≤ 100000 := by rw [hd]; exact due_le
              have hcd : c + d ≤ r.length := by rw [List.length_drop] at hdl; omega
              have hfull : Hid (i + 1 = M + 1 → c + d = r.length) := Lib.hid (fun e => by
                have h9 := hlast.out (by omega)
                have := dueN_all (r := r.drop c) (now := 100000) (fun t ht => Int.le_trans (HLE.out t (List.mem_of_mem_drop ht)) h9)
                rw [List.length_drop] at this
                omega)
              rw [← hd] at hdu
              obtain ⟨L, hL⟩ : ∃ L, L = ((r.drop c).take d).map (·.1) := ⟨_, rfl⟩
              have hLl : L.length = d := by rw [hL, List.length_map, List.length_take, List.length_drop]; omega
              rw [← hL] at hdu
              have HDU := Lib.hid hdu; have HMEM := Lib.hid hmem; have HL := Lib.hid hL; have HLl := Lib.hid hLl
              clear hdu hd hdl hmem hL hLl
              go_wp2_with fail
              refine HDU.out.mono ?_
              rintro e w3 ⟨v3, rfl, ho3, ts3, n3, h3, r3, f3, _⟩
              obtain ⟨A, cc, rfl, hac, hrl⟩ := ho3.slice
              have hd30 : d ≤ 30 := by omega
              rw [HLl.out] at hac hrl ⊢
              rw [List.drop_drop] at r3
              have HRL := Lib.hid hrl; have HH3 := Lib.hid h3; have HR3 := Lib.hid r3; have HF3 := Lib.hid (hf.out.trans f3)
              have ROW3 := Lib.hid (hrow.out.fx f3); have HOW3 := Lib.hid (f3.own hown.out intT_ne.1 intT_ne.2)
              have hA3 := hf.out.bel.size
              clear h3 r3 f3 ho3 hrl HDU hA3
              go_wp2_with fail
              go_loopw [15] (fun s15 wq => ∃ j : Nat, j ≤ d ∧ s15 = .int .i64 (j : Int) ∧ wq = w3) (fun s15 _ => d - (intOf s15).toNat)
              case atStart => exact ⟨0, by omega, rfl, rfl⟩
              case round =>
                obtain ⟨j, hj, rfl, rfl⟩ := hrel
                by_cases hltj : j < d
                · have hltj' : (j : Int) < (d : Int) := by omega
                  obtain ⟨ad, x, rfl, _, hx, c0⟩ := HRL.out.num hltj
                  have htx : ∃ t ∈ (r.drop c).take d, t.1 = x := by
                    have h5 := List.mem_of_getElem? hx
                    rw [HL.out] at h5
                    obtain ⟨t, ht, e⟩ := List.mem_map.1 h5
                    exact ⟨t, ht, e⟩
                  obtain ⟨⟨t1, t2⟩, ht, e⟩ := htx
                  have e' : t1 = x := e
                  subst e'
                  have htn : t2 ≤ 100000 := HMEM.out _ ht
                  have hat := at_r t1 ROW3.out (by omega)
                  rw [atR_mem HSRT.out (t := (t1, t2)) (List.mem_of_mem_drop (List.mem_of_mem_take ht))] at hat
                  have HAT := Lib.hid hat
                  clear hat ht hx e
                  go_wp2_with fail
                  refine HAT.out.mono ?_
                  rintro e w5 ⟨rfl, rfl⟩
                  go_wp2_with fail
                  have hj1 : j + 1 ≤ d := by omega
                  refine ⟨⟨j + 1, hj1, by go_num, by simp⟩, ?_⟩
                  clear hnow hcl hown hrow hh hr hf HAT
                  simp only [intOf]
                  omega
                · have hjd : j = d := by omega
                  subst hjd
                  have hot : ∀ u ∈ L.map EnI, u.oneCell' = true := fun u hu => by
                    obtain ⟨x, _, rfl⟩ := List.mem_map.1 hu
                    rfl
                  obtain ⟨K, hK⟩ : ∃ K, K = (r.take c).map (·.1) := ⟨_, rfl⟩
                  have hKl : K.length = c := by rw [hK, List.length_map, List.length_take]; omega
                  have how2 := HOW3.out
                  rw [← hK] at how2
                  have hb1 : c + j ≤ maxLen := by unfold maxLen; omega
                  have hb2 : (c + j) * 8 ≤ 140737488355328 := by omega
                  have hb3 : w.heap.size ≤ wr.heap.size := HF3.out.bel.size
                  have HOT := Lib.hid hot; have HKK := Lib.hid hK; have HKl := Lib.hid hKl; have HOW := Lib.hid how2; have HB1 := Lib.hid hb1; have HB2 := Lib.hid hb2; have HB3 := Lib.hid hb3
                  clear hot hK hKl how2 hb1 hb2 hb3 HOW3
                  go_wp2_with (at_builtin; go_must (refine wpList_append_any _ rfl (.tmp 98) (.tmp 99) _ rfl w.heap.size 3 i0 _ 1 8 Try.underlying32 hi0 hz0 hz1 hz2 rfl (by omega) _ c (K.map EnI) rfl HOW.out wr.heap.size A j cc (L.map EnI) rfl HRL.out HOT.out HB1.out HB2.out HB3.out ?_))
                  intro v5 w5 hr5 hg5 hv5
                  have f5 := HF3.out.grown hg5 (own_base HOW.out) (Nat.le_refl _)
                  have h5 := HH3.out.grown HOW.out hg5 intT_ne.1 intT_ne.2
                  have row5 := ROW3.out.grown HOW.out hg5
                  have how5 : w5.ownsRow w.heap.size 3 1 v5 (c + j) (((r.take (c + j)).map (·.1)).map EnI) := by
                    rw [← take_keys, ← HKK.out, ← HL.out, List.map_append]
                    exact hr5
                  have hsh : ∃ A' c', v5 = .slice A' (c + j) c' := by
                    rcases how5.2 with ⟨e, h0⟩ | ⟨g', cap, cur, e, _⟩
                    · rw [h0] at *
                      exact ⟨none, 0, e⟩
                    · exact ⟨_, cap, e⟩
                  obtain ⟨A5, c5, rfl⟩ := hsh
                  have HF5 := Lib.hid f5; have HH5 := Lib.hid h5; have ROW5 := Lib.hid row5; have HOW5 := Lib.hid how5
                  clear hr5 hg5 hv5 f5 h5 row5 how5 HOW HRL
                  go_wp2_with fail
                  have hi1 : i + 1 ≤ M + 1 := by omega
                  refine ⟨⟨i + 1, c + j, 100000, ts3, n3, A5, c5, rfl, hi1, by go_num, rfl, hnow2, hcd, hfull, HOW5, ROW5, HH5, HR3, HF5⟩, ?_⟩
                  clear hnow hnow2 hcl hown hrow hh hr hf HOW5 ROW5 HH5 HR3 HF5 HMEM HLE hlast hfull
                  simp only [intOf]
                  omega
            · have hiM : i = M + 1 := by omega
              have hcl2 := hcl.out hiM
              have hout3 : ¬ (i : Int) ≤ (len1 : Int) := by omega
              have hrn : r.drop c = [] := List.drop_of_length_le (by omega)
              have hrt : r.take c = r := List.take_of_length_le (by omega)
              have hts : ts = [] := List.eq_nil_of_length_eq_zero (by rw [hr.out.perm.length_eq, hrn]; rfl)
              have ho3 : OwnI wr w.heap.size (.slice A12 c c12) (r.map (·.1)) := by
                have h8 := hown.out
                rw [hrt] at h8
                unfold OwnI
                rw [List.length_map, ← hcl2]
                exact h8
              have h3 := hh.out
              rw [hts] at h3
              have hke := keys_r hrow.out (by omega)
              have HKE := Lib.hid hke; have HO3 := Lib.hid ho3; have HH3 := Lib.hid h3
              clear hke ho3 h3 hrn hrt hts hnow hcl2
              go_wp2_with fail
              refine HKE.out.mono ?_
              rintro e w4 ⟨v4, rfl, ho4, hb4⟩
              have hsm := same_own ((Fr.of_below hb4).own HO3.out (fun j hj => by have := (HO3.out.lt j hj).2; omega)) ho4 (by rw [List.length_map]; omega)
              have hl4 := fun q => len_hp ((HH3.out.below hb4 (Nat.le_refl _)).drewN q)
              have HSM := Lib.hid hsm; have HL4 := Lib.hid hl4; have HB4 := Lib.hid hb4
              clear hsm hl4 ho4 hb4 HKE
              go_wp2_with fail
              refine HSM.out.mono ?_
              rintro e w5 ⟨rfl, q, rfl⟩
              go_wp2_with fail
              refine (HL4.out q).mono ?_
              rintro e w6 ⟨rfl, rfl⟩
              go_wp2_with fail
              refine (HLV.out _).mono ?_
              rintro e w7 ⟨rfl, hb7⟩
              have HB7 := Lib.hid hb7
              clear hb7
              go_wp2_with fail
              go_ret
              have hb47 := below_drews (HB4.out.mono (Nat.le_refl _)) q
              exact ⟨rfl, hf.out.bel.trans ((hb47.mono hf.out.bel.size).trans (HB7.out.mono (Nat.le_trans hf.out.bel.size (Nat.le_trans HB4.out.size (Nat.le_refl _)))))⟩
end Go.Proofs.Ytglgficmfpecgaa.heapOnce
