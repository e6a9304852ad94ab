
/-
  The walk of HeapPlays.
-/
import Derived.Test.YtglgficmfpecgaaRows
import Derived.WalkKit
import Derived.ProofKit
import Derived.OpenShut
import Derived.ShutString
import Derived.ChangeOld
import Derived.Below
import Derived.Test.YtglgficmfpecgaaHpL
import Derived.Test.YtglgficmfpecgaaHpE
import Derived.Test.YtglgficmfpecgaaRgOwn
import Derived.Test.YtglgficmfpecgaaHpOpen
namespace Go.Proofs.Ytglgficmfpecgaa.heapPlays
open Go.ChangeShapes Go.WideShapes Go.ChangeAt Go.RowKit Go.Proofs.Ytglgficmfpecgaa Go.Proofs.Ytglgficmfpecgaa.Plain
open Go.ChangeMaps (open_string shut_string)
set_option linter.unusedVariables false


set_option maxRecDepth 100000 in
set_option maxHeartbeats 40000000 in
theorem walk (a0 : Option Addr) (len0 cap0 : Nat) (z0 : List Deed8) (w : World) (w0 : IsDeeds8 w a0 len0 cap0 z0) :
    Calls Try.prog 3 #[.slice a0 len0 cap0] w fun e w' => e = .returned (.bool true) ∧ Below w.heap.size w w' := by
  have hnew := new_hp w w.heap.size (Nat.le_refl _)
  obtain ⟨hzl, hzc, hzm, hzd⟩ := w0
  have HN := Lib.hid hnew; have HZ := Lib.hid (show IsDeeds8 w a0 len0 cap0 z0 from ⟨hzl, hzc, hzm, hzd⟩)
  obtain ⟨n60, hn60⟩ : ∃ k, k = min len0 60 := ⟨_, rfl⟩
  have HN60 := Lib.hid hn60
  have hn6 : n60 ≤ 60 := by omega
  clear hnew hzl hzd hn60 hzm
  go_enter Try.func3, Try.ntmps3
  go_wp2_with fail
  refine HN.out.mono ?_
  rintro e w1 ⟨h, rfl, h1, f1⟩
  have HH1 := Lib.hid h1; have HF1 := Lib.hid f1
  clear h1 f1 HN
  go_wp2_with fail
  go_loopw [4, 5] (fun s4 s5 wr => ∃ (k : Nat) (ts r : List Tm) (n : Nat), k ≤ n60 ∧ s5 = .int .i64 (k : Int) ∧ Hid (RowT wr s4 r) ∧ Hid (HP wr w.heap.size h ts n) ∧ Hid (Rel ts r ∧ r.length ≤ k) ∧ Hid (Fx w.heap.size w wr)) (fun _ s5 _ => n60 - (intOf s5).toNat)
  case atStart => exact ⟨0, [], [], 0, by omega, rfl, Lib.hid (RowT.nil _), HH1, Lib.hid ⟨Rel.nil, Nat.le_refl _⟩, HF1⟩
  case round =>
    obtain ⟨k, ts, r, n, hk, rfl, hrow, hh, hrel', hf⟩ := hrel
    by_cases hlt : k < n60
    · have hl1 : k < len0 := by have := HN60.out; omega
      have hl2 : k < 60 := by omega
      have hl1' : (k : Int) < (len0 : Int) := by omega
      have hl2' : (k : Int) < 60 := by omega
      obtain ⟨x, p, rfl, hxb, hda⟩ := deed_at HZ.out hl1
      have hda1 := hda.fx (by rw [block_of_add]; exact hxb) hf.out.bel
      obtain ⟨p0', p1', p2', _⟩ := hda1
      have p0 : wr.cell? (x.add (k * 3)) = some (.int .i64 p.kind) := p0'
      have p1 : wr.cell? ⟨(x.add (k * 3)).block, (x.add (k * 3)).off + 1, none⟩ = some (.int .i64 p.v) := p1'
      have p2 : wr.cell? ⟨(x.add (k * 3)).block, (x.add (k * 3)).off + 2, none⟩ = some (.int .i64 p.n) := p2'
      clear p0' p1' p2'
      have hdo := does_hp (p.kind, p.v, p.n) hh.out hf.out.bel.size hrel'.out.1 hrow.out (by have := hrel'.out.2; omega)
      unfold dV at hdo
      simp only at hdo
      have hrl3 : (doesR r (p.kind, p.v, p.n)).length ≤ k + 1 := by have := doesR_len r (p.kind, p.v, p.n); have := hrel'.out.2; omega
      obtain ⟨R, hRR⟩ : ∃ R, R = doesR r (p.kind, p.v, p.n) := ⟨_, rfl⟩
      rw [← hRR] at hdo hrl3
      have HDO := Lib.hid hdo; have HRL3 := Lib.hid hrl3
      clear hdo hrl3 hRR
      go_wp2_with fail
      refine HDO.out.mono ?_
      rintro e w3 ⟨v3, rfl, hrow3, ts3, n3, h3, r3, f3, _⟩
      obtain ⟨A3, c3, rfl, hrc3⟩ := hrow3.len
      have hlen3 := len_hp h3
      rw [r3.perm.length_eq] at hlen3
      have hl3 := HRL3.out
      have hli := list_hp h3 r3 (by rw [r3.perm.length_eq]; omega)
      have hke := fun (W : World) (hx : RowT W (.slice A3 R.length c3) R) => keys_r hx (by omega)
      have HLEN := Lib.hid hlen3; have HLI := Lib.hid hli; have HKE := Lib.hid hke
      have HROW3 := Lib.hid hrow3; have HH3 := Lib.hid h3; have HR3 := Lib.hid r3; have HF3 := Lib.hid (hf.out.trans f3)
      obtain ⟨m, hm⟩ : ∃ m, R.length = m := ⟨_, rfl⟩
      have HM := Lib.hid hm
      rw [hm] at hrc3 HLEN hl3 ⊢
      clear hlen3 hli hke hrow3 h3 r3 f3 HDO p0 p1 p2 hm
      go_wp2_with fail
      refine HLEN.out.mono ?_
      rintro e w4 ⟨rfl, rfl⟩
      go_wp2_with fail
      refine HLI.out.mono ?_
      rintro e w4 ⟨l4, rfl, ho4, hb4⟩
      have hke4 := HKE.out w4 (HROW3.out.below hb4 (Nat.le_refl _))
      rw [HM.out] at hke4
      have HKE4 := Lib.hid hke4; have HO4 := Lib.hid ho4; have HB4 := Lib.hid hb4
      clear hke4 ho4 hb4 HLI
      go_wp2_with fail
      refine HKE4.out.mono ?_
      rintro e w5 ⟨l5, rfl, ho5, hb5⟩
      have hsm := same_own ((Fr.of_below hb5).own HO4.out (fun j hj => by have := (HO4.out.lt j hj).2; omega)) ho5 (by rw [List.length_map, HM.out]; omega)
      have hb35 := HB4.out.trans (hb5.mono HB4.out.size)
      have HSM := Lib.hid hsm; have HB35 := Lib.hid hb35
      clear hsm ho5 hb5 hb35 HKE4 HO4
      go_wp2_with fail
      refine HSM.out.mono ?_
      rintro e w6 ⟨rfl, q, rfl⟩
      have h6 := (HH3.out.below HB35.out (Nat.le_refl _)).drewN q
      have row6 := (HROW3.out.below HB35.out (Nat.le_refl _)).drewN q
      have f6 := HF3.out.trans ((Fx.of_below HB35.out HF3.out.bel.size (Nat.le_refl _)).drewN q)
      generalize hWQ : w5.drewN q = w6 at h6 row6 f6 ⊢
      have HH6 := Lib.hid h6; have ROW6 := Lib.hid row6; have HF6 := Lib.hid f6
      clear h6 row6 f6 HSM hWQ
      rcases hr0 : R with _ | ⟨t, R'⟩
      · have hts : ts3 = [] := List.eq_nil_of_length_eq_zero (by rw [HR3.out.perm.length_eq, hr0]; rfl)
        have hm0 : m = 0 := by rw [← HM.out, hr0]; rfl
        have hf1 := HH6.out
        rw [hts] at hf1
        have hfn := first_no hf1
        have HFN := Lib.hid hfn
        have hm0' : ¬ (0 : Int) < (m : Int) := by omega
        have HR0 := Lib.hid hr0
        clear hts hf1 hfn hm0 hr0
        go_wp2_with fail
        refine HFN.out.mono ?_
        rintro e w7 ⟨rfl, rfl⟩
        go_wp2_with fail
        have hk1 : k + 1 ≤ n60 := by omega
        have hfin : Hid (Rel ts3 R ∧ R.length ≤ k + 1) := Lib.hid ⟨HR3.out, HRL3.out⟩
        refine ⟨⟨k + 1, ts3, R, n3, hk1, by go_num, by rw [← HM.out]; exact ROW6, HH6, hfin, HF6⟩, ?_⟩
        clear HROW3 HH3 HR3 HF3 hrel' hrow hf hh ROW6 HH6 hfin HF6
        simp only [intOf]
        omega
      · have hm1 : 0 < m := by rw [← HM.out, hr0]; simp
        have hm1' : (0 : Int) < (m : Int) := by omega
        have hts1 : 0 < ts3.length := by rw [HR3.out.perm.length_eq, HM.out]; exact hm1
        have hfy := first_yes HH6.out hts1 (by rw [HR3.out.perm.length_eq, HM.out]; omega)
        obtain ⟨R2, hR2⟩ := HR3.out.first hts1
        have hg0 : gt R 0 = gt ts3 0 := by rw [hR2]; rfl
        rw [← hg0] at hfy
        obtain ⟨g, o, c', hv, hcm, hgl, x0, x1⟩ := ROW6.out.cells (i := 0) (by rw [HM.out]; exact hm1)
        injection hv with e1 e2 e3
        subst e1 e3
        obtain ⟨a0, ha0⟩ : ∃ a, a = (gt R 0).1 := ⟨_, rfl⟩
        obtain ⟨b0, hb0⟩ : ∃ a, a = (gt R 0).2 := ⟨_, rfl⟩
        rw [← ha0] at hfy x0
        rw [← hb0] at hfy x1
        simp only [Nat.zero_mul, Nat.add_zero] at x0 x1
        have HFY := Lib.hid hfy; have HR0 := Lib.hid hr0
        clear hfy hg0 hR2 ha0 hb0 hts1 hr0
        go_wp2_with fail
        refine HFY.out.mono ?_
        rintro e w7 ⟨rfl, j, rfl⟩
        go_wp2_with fail
        have hk1 : k + 1 ≤ n60 := by omega
        have hfin : Hid (Rel ts3 R ∧ R.length ≤ k + 1) := Lib.hid ⟨HR3.out, HRL3.out⟩
        refine ⟨⟨k + 1, ts3, R, n3, hk1, by go_num, by rw [← HM.out]; exact Lib.hid (ROW6.out.drewN j), Lib.hid (HH6.out.drewN j), hfin, Lib.hid (HF6.out.drewN j)⟩, ?_⟩
        clear HROW3 HH3 HR3 HF3 hrel' hrow hf hh ROW6 HH6 hfin HF6
        simp only [intOf]
        omega
    · have hor : ¬ k < len0 ∨ ¬ k < 60 := by have := HN60.out; omega
      have hend : (decide ((k : Int) < (len0 : Int)) && decide ((k : Int) < 60)) = false := by
        rcases hor with h | h
        · rw [decide_eq_false (by omega), Bool.false_and]
        · rw [decide_eq_false (p := (k : Int) < 60) (by omega), Bool.and_false]
      have HL := Lib.hid lives_hp
      by_cases hl1 : (k : Int) < (len0 : Int)
      · have hl2 : ¬ (k : Int) < 60 := by rcases hor with h | h <;> omega
        clear hor hend
        go_wp2_with fail
        refine (HL.out _).mono ?_
        rintro e w1 ⟨rfl, hb1⟩
        have HB1 := Lib.hid hb1
        clear hb1
        go_wp2_with fail
        go_ret
        exact ⟨rfl, hf.out.bel.trans (HB1.out.mono hf.out.bel.size)⟩
      · clear hor hend
        go_wp2_with fail
        refine (HL.out _).mono ?_
        rintro e w1 ⟨rfl, hb1⟩
        have HB1 := Lib.hid hb1
        clear hb1
        go_wp2_with fail
        go_ret
        exact ⟨rfl, hf.out.bel.trans (HB1.out.mono hf.out.bel.size)⟩
end Go.Proofs.Ytglgficmfpecgaa.heapPlays
