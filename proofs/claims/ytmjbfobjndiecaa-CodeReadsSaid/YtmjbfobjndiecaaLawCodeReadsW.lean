
/-
  The walk of CodeReads.
-/
import Derived.Test.YtmjbfobjndiecaaRows
import Derived.WalkKit
import Derived.ProofKit
import Derived.OpenShut
import Derived.ShutString
import Derived.ChangeOld
import Derived.Below
import Derived.Test.YtmjbfobjndiecaaCsD
import Derived.Test.YtmjbfobjndiecaaCsW
import Derived.Test.YtmjbfobjndiecaaCsN
import Derived.Test.YtmjbfobjndiecaaPrOpen
import Derived.Test.YtmjbfobjndiecaaCLives
import Derived.Test.YtmjbfobjndiecaaSame
import Derived.Test.YtmjbfobjndiecaaCrFG
import Derived.Test.YtmjbfobjndiecaaCrQH
import Derived.Test.YtmjbfobjndiecaaWriteN
import Derived.Test.YtmjbfobjndiecaaFew
import Derived.Test.YtmjbfobjndiecaaBits32
namespace Go.Proofs.Ytmjbfobjndiecaa.codeReads
open Go.ChangeShapes Go.WideShapes Go.ChangeAt Go.RowKit Go.Proofs.Ytmjbfobjndiecaa Go.Proofs.Ytmjbfobjndiecaa.Plain
open Go.ChangeMaps (open_string shut_string)
set_option linter.unusedVariables false


theorem wf_i64 {n : Int} (h : (Lit.int .i64 n).wf = true) : -9223372036854775808 ≤ n ∧ n ≤ 9223372036854775807 := by
  have := bounds_i64 h
  omega
theorem reads_lists (w : World) (u v : Value) (t : TypeId) : (w.alloc (.cells #[u, v] t)).cell? ⟨w.heap.size, 0, none⟩ = some u ∧ (w.alloc (.cells #[u, v] t)).cell? ⟨w.heap.size, 1, none⟩ = some v :=
  ⟨((Blk.new w t #[u, v]).cell 0).trans rfl, ((Blk.new w t #[u, v]).cell 1).trans rfl⟩
theorem read_facts (bs : List Nat) (hx : ∀ x ∈ bs, x < 256) : Short3 (readP bs) ∧ Lens (readP bs) ∧ (readE bs = 0 → mayC (readP bs) = true ∧ progL (readP bs) = bs) ∧ (readE bs ≠ 0 → mayC (readP bs) = false) := by
  have h : Few3 (readP bs) := by
    unfold readP
    split
    · exact prog_few bs
    · exact ⟨by decide, by simp [noP], by decide, by decide, by decide, by decide, by simp [noP]⟩
  refine ⟨⟨by have := h.funcs; omega, fun f hf => by have := h.code f hf; omega, by have := h.conds; omega, by have := h.semas; omega, by have := h.chans; omega, by have := h.choices; omega, fun l hl => by have := h.each l hl; omega⟩, few_lens h, fun he => ?_, fun he => ?_⟩
  · rw [may_eq]; exact read_write bs hx he
  · rw [may_eq]; unfold readP; rw [if_neg he]; exact no_may
/-- A text that is read. -/
def RowB (W : World) (v : Value) : Prop := ∃ A c, ∃ bs : List Nat, v = .slice A bs.length c ∧ (∀ x ∈ bs, x < 256) ∧ bs.length ≤ 140737488355328 ∧ bs.length ≤ c ∧ ∀ X, Below W.heap.size W X → Reads X W.heap.size 1 A bs.length (BS bs)
set_option maxRecDepth 100000 in
set_option maxHeartbeats 40000000 in
theorem walk (a0 : Option Addr) (len0 cap0 : Nat) (z0 : List Int) (hd1 : PH) (q1 : PV) (a2 : Int) (a3 : Int) (a4 : Int) (w : World) (w0 : IsRow .u8 w a0 len0 cap0 z0) (w1 : RP w w.heap.size hd1 q1 ∧ Fit q1 ∧ Lens q1) (w2 : (Lit.int .i64 a2).wf = true) (w3 : (Lit.int .u8 a3).wf = true) (w4 : (Lit.int .i64 a4).wf = true) :
    Calls Try.prog 5 #[.slice a0 len0 cap0, .agg #[.slice hd1.fA q1.funcs.length hd1.fc, .int .i64 q1.mutexes, .slice hd1.cA q1.conds.length hd1.cc, .slice hd1.sA q1.semas.length hd1.sc, .slice hd1.hA q1.chans.length hd1.hc, .slice hd1.xA q1.choices.length hd1.xc, .int .i64 q1.threads], .int .i64 a2, .int .u8 a3, .int .i64 a4] w fun e w' => e = .returned (.bool true) ∧ Below w.heap.size w w' := by
  obtain ⟨xs, hl, hx, hr, hc, hn⟩ := row_reads w0
  obtain ⟨hrp, hfit, hlen⟩ := w1
  have A2 := wf_i64 w2
  have A4 := wf_i64 w4
  obtain ⟨hd3, hd4⟩ := wf_u8 w3
  obtain ⟨dk, rfl⟩ : ∃ d : Nat, a3 = (d : Int) := ⟨a3.toNat, by omega⟩
  have dk256 : dk < 256 := by omega
  have hp0 := good_puts q1 hfit
  obtain ⟨W0, hW0⟩ : ∃ X, X = w.alloc (.cells #[.slice hd1.fA q1.funcs.length hd1.fc, .int .i64 q1.mutexes, .slice hd1.cA q1.conds.length hd1.cc, .slice hd1.sA q1.semas.length hd1.sc, .slice hd1.hA q1.chans.length hd1.hc, .slice hd1.xA q1.choices.length hd1.xc, .int .i64 q1.threads] 26) := ⟨_, rfl⟩
  have h0 : Below w.heap.size w W0 := by rw [hW0]; exact (Below.refl _ _).alloc (Nat.le_refl _) _
  have hk0 : Blk W0 w.heap.size 26 #[.slice hd1.fA q1.funcs.length hd1.fc, .int .i64 q1.mutexes, .slice hd1.cA q1.conds.length hd1.cc, .slice hd1.sA q1.semas.length hd1.sc, .slice hd1.hA q1.chans.length hd1.hc, .slice hd1.xA q1.choices.length hd1.xc, .int .i64 q1.threads] := by rw [hW0]; exact Blk.new _ _ _
  have hr0 : RP W0 w.heap.size hd1 q1 := hrp.below h0
  have z0 := h0.size
  obtain ⟨m0, m1, m2, m3, m4, m5, m6⟩ : W0.cell? ⟨w.heap.size, 0, none⟩ = some (.slice hd1.fA q1.funcs.length hd1.fc) ∧ W0.cell? ⟨w.heap.size, 1, none⟩ = some (.int .i64 q1.mutexes) ∧ W0.cell? ⟨w.heap.size, 2, none⟩ = some (.slice hd1.cA q1.conds.length hd1.cc) ∧ W0.cell? ⟨w.heap.size, 3, none⟩ = some (.slice hd1.sA q1.semas.length hd1.sc) ∧ W0.cell? ⟨w.heap.size, 4, none⟩ = some (.slice hd1.hA q1.chans.length hd1.hc) ∧ W0.cell? ⟨w.heap.size, 5, none⟩ = some (.slice hd1.xA q1.choices.length hd1.xc) ∧ W0.cell? ⟨w.heap.size, 6, none⟩ = some (.int .i64 q1.threads) := ⟨((hk0).cell 0).trans rfl, ((hk0).cell 1).trans rfl, ((hk0).cell 2).trans rfl, ((hk0).cell 3).trans rfl, ((hk0).cell 4).trans rfl, ((hk0).cell 5).trans rfl, ((hk0).cell 6).trans rfl⟩
  have HW0 := Lib.hid hW0.symm; have HR0 := Lib.hid hr0; have HF0 := Lib.hid hfit; have HP0 := Lib.hid hp0; have H0 := Lib.hid h0; have HX := Lib.hid hx; have HL := Lib.hid hl; have HRX := Lib.hid hr
  clear hrp hlen hfit hp0 hr0 hW0 hk0 h0 w0 w2 w3 w4 hx hl hr hd3 hd4
  go_enter Try.func5, Try.ntmps5
  go_upto_region 1 with fail
  rw [HW0.out]
  go_wp2_with fail
  refine (few_any a0 len0 cap0 300 W0 hc hn (by omega)).mono ?_
  rintro e w1 ⟨rfl, rfl⟩
  generalize hmn : min len0 300 = lq
  have hlq : lq ≤ len0 ∧ lq ≤ 300 := by omega
  clear hmn
  go_wp2_with fail
  refine (good_any hd1 q1 W0 w.heap.size HR0.out (by omega) HF0.out).mono ?_
  rintro e w1 hm
  obtain ⟨hg, rfl, hrg, hbg⟩ := hm.rp
  clear hm m0 m1 m2 m3 m4 m5 m6 HF0 HR0
  generalize good q1 = g at *
  obtain ⟨fA, fc, cA, cc, sA, sc, hA, hc, xA, xc⟩ := hg
  simp only at hrg ⊢
  have hz1 := hbg.size
  have HRG := Lib.hid hrg; have HBG := Lib.hid hbg
  clear hrg hbg
  go_wp2_with fail
  refine (refWrite_any ⟨fA, fc, cA, cc, sA, sc, hA, hc, xA, xc⟩ g w1 w1.heap.size HRG.out (Nat.le_refl _) HP0.out).mono ?_
  rintro e w2 ⟨v2, rfl, A2', c2', rfl, how, hbw⟩
  have hz2 := hbw.size
  have hpl := progL_len HP0.out
  have hpp : 1 ≤ (progL g).length := by have := shortL_one g.funcs.length; unfold progL funcsL; simp only [List.length_append]; omega
  have hpt2 : 2 ≤ (progL g).length := by have := shortL_one g.funcs.length; have := shortL_one g.mutexes.toNat; unfold progL funcsL; simp only [List.length_append]; omega
  have hlt256 := progL_lt g
  generalize progL g = yl at *
  have HBW := Lib.hid hbw; have HLT := Lib.hid hlt256
  obtain ⟨bo, capo, hvo, hbo, hbz⟩ := how.form (by omega)
  injection hvo with hv1 _ hv2
  subst hv1 hv2
  have HOW := Lib.hid how
  clear how hbw hlt256 HRG HP0
  obtain ⟨n1, hn1⟩ : ∃ n, n = yl.length := ⟨_, rfl⟩
  rw [← hn1] at HOW hpl hpp hpt2 ⊢
  have HN1 := Lib.hid hn1
  clear hn1
  go_wp2_with fail
  refine (around_any a2 (n1 : Int) w2 A2.1 A2.2 (by omega) (by omega)).mono ?_
  rintro e w3 ⟨rfl, rfl⟩
  have hk := around_bd a2 (n1 : Int) (by omega)
  generalize around a2 (n1 : Int) = k0 at *
  obtain ⟨k, rfl⟩ : ∃ f : Nat, k0 = (f : Int) := ⟨k0.toNat, by omega⟩
  have hkn : k < n1 := by omega
  clear hk
  obtain ⟨x, hxk⟩ : ∃ x, yl[k]? = some x := ⟨_, List.getElem?_eq_getElem (by have := HN1.out; omega)⟩
  have hx256 : x < 256 := HLT.out x (List.mem_of_getElem? hxk)
  have r0 : w2.cell? ⟨bo, k, none⟩ = some (.int .u8 (x : Int)) := (HOW.out.cellAt k (by omega)).trans (by simp [BS, B, hxk])
  have r1 := HOW.out.frozenAt k
  have hxor := u8_xor_nat x dk hx256 dk256
  have hxl : x ^^^ dk < 256 := by have : x ^^^ dk < 2 ^ 8 := Nat.xor_lt_two_pow (by omega) (by omega); omega
  generalize x ^^^ dk = y at *
  obtain ⟨U, hU⟩ : ∃ X, X = w2.setCell ⟨bo, k, none⟩ (.int .u8 (y : Int)) := ⟨_, rfl⟩
  have hoU : U.ownsRow w1.heap.size 5 1 (.slice (some ⟨bo, 0, none⟩) n1 c2') n1 (BS (yl.set k y)) := by
    rw [hU, show BS (yl.set k y) = (BS yl).set k (.int .u8 (y : Int)) by simp [BS, B, List.map_set]]
    exact (HOW.out.stored _ _).1
  have hbU : Below w.heap.size w U := by rw [hU]; exact (H0.out.trans ((HBG.out.trans (HBW.out.mono hz1)).mono z0)).setCell (p := ⟨bo, k, none⟩) (show w.heap.size ≤ bo by omega) _
  have HU := Lib.hid hU.symm; have HOU := Lib.hid hoU; have HBU := Lib.hid hbU
  have zU := hbU.size
  have i1 : (k : Int) < (n1 : Int) := by omega
  have i2 : (0 : Int) ≤ (k : Int) := by omega
  clear hxk hU hoU hbU HBW HOW HBG hbo hbz
  go_upto_region 5 with fail
  rw [HU.out]
  clear r0 r1 hxor
  go_wp2_with fail
  refine (around_any a4 3 U A4.1 A4.2 (by omega) (by omega)).mono ?_
  rintro e w3 ⟨rfl, rfl⟩
  have hk3 := around_bd a4 3 (by omega)
  generalize around a4 3 = k3 at *
  obtain ⟨cu, rfl⟩ : ∃ f : Nat, k3 = (f : Int) := ⟨k3.toNat, by omega⟩
  have hcu : cu ≤ 2 := by omega
  clear hk3
  obtain ⟨n5, hn5⟩ : ∃ n5, n1 = n5 + cu := ⟨n1 - cu, by omega⟩
  have hs5 : (n1 : Int) - (cu : Int) = (n5 : Int) := by omega
  have hn5n : n5 ≤ n1 := by omega
  have HN5 := Lib.hid hn5
  have hcap := (HOU.out.form (by omega))
  have hc2 : n1 ≤ c2' := by
    obtain ⟨_, _, e, _, _⟩ := hcap
    obtain ⟨A', c', e', h', _⟩ := own_slice HOU.out
    injection e' with _ _ e'
    omega
  clear hn5 hcap
  obtain ⟨W1, hW1⟩ : ∃ X, X = U.alloc (.cells #[.slice a0 lq cap0, .slice (some ⟨bo, 0, none⟩) n5 c2'] 29) := ⟨_, rfl⟩
  have hzW : W1.heap.size = U.heap.size + 1 := by rw [hW1]; simp
  have hbW : Below U.heap.size U W1 := by rw [hW1]; exact (Below.refl _ _).alloc (Nat.le_refl _) _
  have hrow0 : RowB W1 (.slice a0 lq cap0) := ⟨a0, cap0, xs.take lq, by rw [List.length_take_of_le (by have := HL.out; omega)], fun x hx => HX.out x (List.mem_of_mem_take hx), by rw [List.length_take_of_le (by have := HL.out; omega)]; omega, by rw [List.length_take_of_le (by have := HL.out; omega)]; omega, fun X hX => by
    rw [List.length_take_of_le (by have := HL.out; omega)]
    have h1 := (Reads.take HRX.out (show lq ≤ len0 by omega))
    exact (h1.below (HBU.out.trans ((hbW.trans (hX.mono (by omega))).mono zU))).more (by omega)⟩
  have hrow1 : RowB W1 (.slice (some ⟨bo, 0, none⟩) n5 c2') := ⟨some ⟨bo, 0, none⟩, c2', (yl.set k y).take n5, by rw [List.length_take_of_le (by simp; have := HN1.out; omega)], fun x hx => by
      rcases List.mem_or_eq_of_mem_set (List.mem_of_mem_take hx) with h | h
      · exact HLT.out x h
      · omega, by rw [List.length_take_of_le (by simp; have := HN1.out; omega)]; omega, by rw [List.length_take_of_le (by simp; have := HN1.out; omega)]; omega, fun X hX => by
    rw [List.length_take_of_le (by simp; have := HN1.out; omega)]
    have h1 := (Reads.take (Reads.of_own HOU.out) hn5n)
    exact (h1.below (hbW.trans (hX.mono (by omega)))).more (by omega)⟩
  have hcell := reads_lists U (.slice a0 lq cap0) (.slice (some ⟨bo, 0, none⟩) n5 c2') 29
  rw [← hW1] at hcell
  have HROWS : Hid (∀ i : Nat, i < 2 → ∃ A c, ∃ bs : List Nat, W1.cell? ⟨U.heap.size, i, none⟩ = some (.slice A bs.length c) ∧ (∀ x ∈ bs, x < 256) ∧ bs.length ≤ 140737488355328 ∧ bs.length ≤ c ∧ ∀ X, Below W1.heap.size W1 X → Reads X W1.heap.size 1 A bs.length (BS bs)) := fun i hi => by
    rcases (show i = 0 ∨ i = 1 by omega) with rfl | rfl
    · obtain ⟨A, c, bs, e, h⟩ := hrow0
      exact ⟨A, c, bs, by rw [← e]; exact hcell.1, h⟩
    · obtain ⟨A, c, bs, e, h⟩ := hrow1
      exact ⟨A, c, bs, by rw [← e]; exact hcell.2, h⟩
  have HBW1 : Hid (Below w.heap.size w W1) := HBU.out.trans (hbW.mono zU)
  have HW1 := Lib.hid hW1.symm
  have zW1 := HBW1.out.size
  have zUW : U.heap.size < W1.heap.size := by omega
  clear hrow0 hrow1 hcell hbW hzW hW1 HRX HL HX HLT HOU HBU HN1 HN5
  go_upto_region 7 with fail
  rw [HW1.out]
  clear HW1 hs5
  generalize U.heap.size = ba at *
  go_wp2_with fail
  go_loopw [14] (fun s14 wr => ∃ i : Nat, i ≤ 2 ∧ s14 = .int .i64 (i : Int) ∧ Hid (Below W1.heap.size W1 wr)) (fun s14 _ => 2 - (intOf s14).toNat)
  case atStart => exact ⟨0, by omega, rfl, Below.refl _ _⟩
  case round =>
    obtain ⟨i, hi, rfl, hbel⟩ := hrel
    by_cases hlt : i < 2
    · obtain ⟨A, c, bs, hcell, hxb, hlb, hcb, hrd⟩ := HROWS.out i hlt
      have zr := hbel.out.size
      have KC : Hid (∀ X, Below W1.heap.size W1 X → X.cell? ⟨ba, i, none⟩ = some (.slice A bs.length c)) := fun X hX => (hX.cell (p := ⟨ba, i, none⟩) zUW).trans hcell
      have HRD := Lib.hid hrd; have HXB := Lib.hid hxb
      have q0 := KC.out wr hbel.out
      have i3 : (i : Int) < 2 := by omega
      have i4 : (0 : Int) ≤ (i : Int) := by omega
      have R1 := Lib.hid (read_any bs bs.length rfl hxb wr W1.heap.size A c (hrd wr hbel.out) zr hlb)
      clear hcell hrd hxb
      go_wp2_with fail
      refine R1.out.mono ?_
      rintro e X1 ⟨hd1', he1, hrp1, hb1⟩
      subst he1
      obtain ⟨lfA, lfc, lcA, lcc, lsA, lsc, lhA, lhc, lxA, lxc⟩ := hd1'
      simp only at hrp1 ⊢
      obtain ⟨hs3, hlq2, hye, hno⟩ := read_facts bs HXB.out
      generalize hq : readP bs = q at *
      generalize hE : readE bs = E at *
      have HQQ := Lib.hid hq; have HEE := Lib.hid hE; have HS3 := Lib.hid hs3; have HLQ := Lib.hid hlq2; have HYE := Lib.hid hye; have HNO := Lib.hid hno
      obtain ⟨V1, hV1⟩ : ∃ X, X = X1.alloc (.cells #[.slice lfA q.funcs.length lfc, .int .i64 q.mutexes, .slice lcA q.conds.length lcc, .slice lsA q.semas.length lsc, .slice lhA q.chans.length lhc, .slice lxA q.choices.length lxc, .int .i64 q.threads] 26) := ⟨_, rfl⟩
      have hba1 : Below X1.heap.size X1 V1 := by rw [hV1]; exact (Below.refl _ _).alloc (Nat.le_refl _) _
      have hk1 : Blk V1 X1.heap.size 26 #[.slice lfA q.funcs.length lfc, .int .i64 q.mutexes, .slice lcA q.conds.length lcc, .slice lsA q.semas.length lsc, .slice lhA q.chans.length lhc, .slice lxA q.choices.length lxc, .int .i64 q.threads] := by rw [hV1]; exact Blk.new _ _ _
      have zx1 := hb1.size
      have hbel1 : Below W1.heap.size W1 V1 := hbel.out.trans ((hb1.trans (hba1.mono zx1)).mono zr)
      have HKL : Hid (∀ X, Below V1.heap.size V1 X → (X.cell? ⟨X1.heap.size, 0, none⟩ = some (.slice lfA q.funcs.length lfc) ∧ X.cell? ⟨X1.heap.size, 1, none⟩ = some (.int .i64 q.mutexes) ∧ X.cell? ⟨X1.heap.size, 2, none⟩ = some (.slice lcA q.conds.length lcc) ∧ X.cell? ⟨X1.heap.size, 3, none⟩ = some (.slice lsA q.semas.length lsc) ∧ X.cell? ⟨X1.heap.size, 4, none⟩ = some (.slice lhA q.chans.length lhc) ∧ X.cell? ⟨X1.heap.size, 5, none⟩ = some (.slice lxA q.choices.length lxc) ∧ X.cell? ⟨X1.heap.size, 6, none⟩ = some (.int .i64 q.threads)) ∧ RP X V1.heap.size ⟨lfA, lfc, lcA, lcc, lsA, lsc, lhA, lhc, lxA, lxc⟩ q) := fun X hX => ⟨⟨((hk1.below hX hk1.lt).cell 0).trans rfl, ((hk1.below hX hk1.lt).cell 1).trans rfl, ((hk1.below hX hk1.lt).cell 2).trans rfl, ((hk1.below hX hk1.lt).cell 3).trans rfl, ((hk1.below hX hk1.lt).cell 4).trans rfl, ((hk1.below hX hk1.lt).cell 5).trans rfl, ((hk1.below hX hk1.lt).cell 6).trans rfl⟩, ((hrp1.below hba1).more hba1.size).below hX⟩
      have HV1 := Lib.hid hV1.symm; have HBEL1 := Lib.hid hbel1
      have zv1 := hbel1.size
      have R2 := Lib.hid (refRead_any bs bs.length rfl HXB.out V1 W1.heap.size A c (HRD.out V1 hbel1) zv1 hcb hlb)
      clear hs3 hlq2 hye hno hq hE hV1 hba1 hk1 hrp1 hb1 hbel1 R1 q0
      go_upto_region 11 with fail
      rw [HV1.out]
      have q0 := KC.out V1 HBEL1.out
      go_wp2_with fail
      refine R2.out.mono ?_
      rintro e X2 ⟨hd2', he2, hrp2, hb2⟩
      rw [HQQ.out, HEE.out] at he2
      rw [HQQ.out] at hrp2
      subst he2
      obtain ⟨mfA, mfc, mcA, mcc, msA, msc, mhA, mhc, mxA, mxc⟩ := hd2'
      simp only at hrp2 ⊢
      obtain ⟨V2, hV2⟩ : ∃ X, X = X2.alloc (.cells #[.slice mfA q.funcs.length mfc, .int .i64 q.mutexes, .slice mcA q.conds.length mcc, .slice msA q.semas.length msc, .slice mhA q.chans.length mhc, .slice mxA q.choices.length mxc, .int .i64 q.threads] 26) := ⟨_, rfl⟩
      have hba2 : Below X2.heap.size X2 V2 := by rw [hV2]; exact (Below.refl _ _).alloc (Nat.le_refl _) _
      have hk2 : Blk V2 X2.heap.size 26 #[.slice mfA q.funcs.length mfc, .int .i64 q.mutexes, .slice mcA q.conds.length mcc, .slice msA q.semas.length msc, .slice mhA q.chans.length mhc, .slice mxA q.choices.length mxc, .int .i64 q.threads] := by rw [hV2]; exact Blk.new _ _ _
      have zx2 := hb2.size
      have hb12 : Below V1.heap.size V1 V2 := hb2.trans (hba2.mono zx2)
      have zv12 := hb12.size
      have HKM : Hid (∀ X, Below V2.heap.size V2 X → ((X.cell? ⟨X1.heap.size, 0, none⟩ = some (.slice lfA q.funcs.length lfc) ∧ X.cell? ⟨X1.heap.size, 1, none⟩ = some (.int .i64 q.mutexes) ∧ X.cell? ⟨X1.heap.size, 2, none⟩ = some (.slice lcA q.conds.length lcc) ∧ X.cell? ⟨X1.heap.size, 3, none⟩ = some (.slice lsA q.semas.length lsc) ∧ X.cell? ⟨X1.heap.size, 4, none⟩ = some (.slice lhA q.chans.length lhc) ∧ X.cell? ⟨X1.heap.size, 5, none⟩ = some (.slice lxA q.choices.length lxc) ∧ X.cell? ⟨X1.heap.size, 6, none⟩ = some (.int .i64 q.threads)) ∧ RP X V1.heap.size ⟨lfA, lfc, lcA, lcc, lsA, lsc, lhA, lhc, lxA, lxc⟩ q) ∧ (X.cell? ⟨X2.heap.size, 0, none⟩ = some (.slice mfA q.funcs.length mfc) ∧ X.cell? ⟨X2.heap.size, 1, none⟩ = some (.int .i64 q.mutexes) ∧ X.cell? ⟨X2.heap.size, 2, none⟩ = some (.slice mcA q.conds.length mcc) ∧ X.cell? ⟨X2.heap.size, 3, none⟩ = some (.slice msA q.semas.length msc) ∧ X.cell? ⟨X2.heap.size, 4, none⟩ = some (.slice mhA q.chans.length mhc) ∧ X.cell? ⟨X2.heap.size, 5, none⟩ = some (.slice mxA q.choices.length mxc) ∧ X.cell? ⟨X2.heap.size, 6, none⟩ = some (.int .i64 q.threads)) ∧ RP X V2.heap.size ⟨mfA, mfc, mcA, mcc, msA, msc, mhA, mhc, mxA, mxc⟩ q) := fun X hX => ⟨HKL.out X (hb12.trans (hX.mono zv12)), ⟨((hk2.below hX hk2.lt).cell 0).trans rfl, ((hk2.below hX hk2.lt).cell 1).trans rfl, ((hk2.below hX hk2.lt).cell 2).trans rfl, ((hk2.below hX hk2.lt).cell 3).trans rfl, ((hk2.below hX hk2.lt).cell 4).trans rfl, ((hk2.below hX hk2.lt).cell 5).trans rfl, ((hk2.below hX hk2.lt).cell 6).trans rfl⟩, ((hrp2.below hba2).more hba2.size).below hX⟩
      have HV2 := Lib.hid hV2.symm
      have HBEL2 : Hid (∀ X, Below V2.heap.size V2 X → Below W1.heap.size W1 X) := fun X hX => HBEL1.out.trans ((hb12.trans (hX.mono zv12)).mono zv1)
      clear hV2 hba2 hk2 hrp2 hb2 hb12 R2 q0
      go_upto_region 12 with fail
      rw [HV2.out]
      obtain ⟨⟨⟨j0, j1, j2, j3, j4, j5, j6⟩, hrl⟩, ⟨r0, r1, r2, r3, r4, r5, r6⟩, hrm⟩ := HKM.out V2 (Below.refl _ _)
      have HL1 := Lib.hid hrl; have HM1 := Lib.hid hrm
      clear hrl hrm
      go_wp2_with fail
      refine (refSame_any ⟨lfA, lfc, lcA, lcc, lsA, lsc, lhA, lhc, lxA, lxc⟩ ⟨mfA, mfc, mcA, mcc, msA, msc, mhA, mhc, mxA, mxc⟩ q q V2 (HL1.out.more zv12) HM1.out HS3.out HS3.out).mono ?_
      rintro e X3 ⟨rfl, hb3⟩
      rw [show decide (q = q) = true from decide_eq_true rfl]
      clear j0 j1 j2 j3 j4 j5 j6 r0 r1 r2 r3 r4 r5 r6 HL1 HM1
      obtain ⟨⟨⟨j0, j1, j2, j3, j4, j5, j6⟩, hrl⟩, ⟨r0, r1, r2, r3, r4, r5, r6⟩, hrm⟩ := HKM.out X3 hb3
      have HL1 := Lib.hid hrl; have HB3 := Lib.hid hb3
      have zx3 := hb3.size
      clear hrl hrm r0 r1 r2 r3 r4 r5 r6 hb3
      by_cases hE0 : E = 0
      · obtain ⟨hmc, hpq⟩ := HYE.out hE0
        have HMC := Lib.hid hmc; have HPQ := Lib.hid hpq
        have HPT := Lib.hid (puts_of q hmc)
        clear hmc hpq
        subst hE0
        go_wp2_with fail
        refine (write_yes ⟨lfA, lfc, lcA, lcc, lsA, lsc, lhA, lhc, lxA, lxc⟩ q X3 V1.heap.size HL1.out (by omega) HLQ.out HMC.out).mono ?_
        rintro e X4 ⟨A9, c9, rfl, ho9, hb9⟩
        rw [HPQ.out] at ho9 ⊢
        have hb4 : Below V2.heap.size V2 X4 := HB3.out.trans (hb9.mono zx3)
        have q0 := KC.out X4 (HBEL2.out X4 hb4)
        have HSM := Lib.hid (same_yes bs bs.length rfl X4 X4.heap.size W1.heap.size A9 A c9 c (Reads.of_own ho9) (HRD.out X4 (HBEL2.out X4 hb4)) hlb)
        have HB4 := Lib.hid hb4
        clear ho9 hb9 hb4 j0 j1 j2 j3 j4 j5 j6
        go_wp2_with fail
        refine HSM.out.mono ?_
        rintro e X5 ⟨rfl, d, rfl⟩
        clear HSM q0
        go_wp2_with fail
        exact ⟨⟨i + 1, by omega, by go_num, (below_drews (HBEL2.out X4 HB4.out) d)⟩, by simp [intOf]; omega⟩
      · have hmc := HNO.out hE0
        have HMC := Lib.hid hmc
        have hEb : (E == 0) = false := by simpa using hE0
        clear hmc hE0
        go_wp2_with fail
        refine (write_no ⟨lfA, lfc, lcA, lcc, lsA, lsc, lhA, lhc, lxA, lxc⟩ q X3 V1.heap.size HL1.out (by omega) HLQ.out HMC.out).mono ?_
        rintro e X4 ⟨rfl, hb9⟩
        have HB4 := Lib.hid (HBEL2.out X4 (HB3.out.trans (hb9.mono zx3)))
        clear hb9 j0 j1 j2 j3 j4 j5 j6
        go_wp2_with fail
        exact ⟨⟨i + 1, by omega, by go_num, HB4.out⟩, by simp [intOf]; omega⟩
    · have HBE := Lib.hid hbel.out
      clear hbel
      go_wp2_with fail
      refine (clives_any _).mono ?_
      rintro e w11 ⟨rfl, hb11⟩
      have HFIN : Hid (Below w.heap.size w w11) := HBW1.out.trans ((HBE.out.trans (hb11.mono HBE.out.size)).mono zW1)
      clear hb11
      go_wp2_with fail
      go_ret
      exact ⟨rfl, HFIN.out⟩
end Go.Proofs.Ytmjbfobjndiecaa.codeReads
