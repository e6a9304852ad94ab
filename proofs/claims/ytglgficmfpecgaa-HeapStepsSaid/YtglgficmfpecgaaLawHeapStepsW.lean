
/-
  The walk of HeapSteps.
-/
import Derived.Test.YtglgficmfpecgaaRows
import Derived.WalkKit
import Derived.ProofKit
import Derived.OpenShut
import Derived.ShutString
import Derived.ChangeOld
import Derived.Below
import Derived.Test.YtglgficmfpecgaaHpE
import Derived.Test.YtglgficmfpecgaaRgOwn
import Derived.Test.YtglgficmfpecgaaHpOpen
namespace Go.Proofs.Ytglgficmfpecgaa.heapSteps
open Go.ChangeShapes Go.WideShapes Go.ChangeAt Go.RowKit Go.Proofs.Ytglgficmfpecgaa Go.Proofs.Ytglgficmfpecgaa.Plain
open Go.ChangeMaps (open_string shut_string)
set_option linter.unusedVariables false


set_option maxRecDepth 100000 in
set_option maxHeartbeats 40000000 in
theorem walk (a0 : Option Addr) (len0 cap0 : Nat) (z0 : List Deed8) (w : World) (w0 : IsDeeds8 w a0 len0 cap0 z0) :
    Calls Try.prog 4 #[.slice a0 len0 cap0] w fun e w' => e = .returned (.bool true) ∧ Below w.heap.size w w' := by
  have hnew := new_hp w w.heap.size (Nat.le_refl _)
  obtain ⟨hzl, hzc, hzm, hzd⟩ := w0
  have HN := Lib.hid hnew; have HZ := Lib.hid (show IsDeeds8 w a0 len0 cap0 z0 from ⟨hzl, hzc, hzm, hzd⟩)
  obtain ⟨n80, hn80⟩ : ∃ k, k = min len0 80 := ⟨_, rfl⟩
  have HN80 := Lib.hid hn80
  have hn8 : n80 ≤ 80 := by omega
  clear hnew hzl hzd hn80 hzm
  go_enter Try.func4, Try.ntmps4
  go_wp2_with fail
  refine HN.out.mono ?_
  rintro e w1 ⟨h, rfl, h1, f1⟩
  have HH1 := Lib.hid h1; have HF1 := Lib.hid f1
  clear h1 f1 HN
  go_wp2_with fail
  go_loopw [4, 5] (fun s4 s5 wr => ∃ (k : Nat) (ts r : List Tm) (n : Nat), k ≤ n80 ∧ s5 = .int .i64 (k : Int) ∧ Hid (RowT wr s4 r) ∧ Hid (HP wr w.heap.size h ts n) ∧ Hid (Rel ts r ∧ r.length ≤ k ∧ n ≤ k * 1680) ∧ Hid (Fx w.heap.size w wr)) (fun _ s5 _ => n80 - (intOf s5).toNat)
  case atStart => exact ⟨0, [], [], 0, by omega, rfl, Lib.hid (RowT.nil _), HH1, Lib.hid ⟨Rel.nil, Nat.le_refl _, by omega⟩, HF1⟩
  case round =>
    obtain ⟨k, ts, r, n, hk, rfl, hrow, hh, hrel', hf⟩ := hrel
    by_cases hlt : k < n80
    · have hl1 : k < len0 := by have := HN80.out; omega
      have hl2 : k < 80 := by omega
      have hl1' : (k : Int) < (len0 : Int) := by omega
      have hl2' : (k : Int) < 80 := by omega
      obtain ⟨x, p, rfl, hxb, hda⟩ := deed_at HZ.out hl1
      have hda1 := hda.fx (by rw [block_of_add]; exact hxb) hf.out.bel
      obtain ⟨p0', p1', p2', _⟩ := hda1
      have p0 : wr.cell? (x.add (k * 3)) = some (.int .i64 p.kind) := p0'
      have p1 : wr.cell? ⟨(x.add (k * 3)).block, (x.add (k * 3)).off + 1, none⟩ = some (.int .i64 p.v) := p1'
      have p2 : wr.cell? ⟨(x.add (k * 3)).block, (x.add (k * 3)).off + 2, none⟩ = some (.int .i64 p.n) := p2'
      clear p0' p1' p2'
      obtain ⟨A, c, rfl, hrc⟩ := hrow.out.len
      obtain ⟨rl, hrl⟩ : ∃ rl, r.length = rl := ⟨_, rfl⟩
      have HRL := Lib.hid hrl
      rw [hrl] at hrc ⊢
      have hrk : rl ≤ k := by have := hrel'.out.2.1; omega
      have hnb : n ≤ 134400 := by have := hrel'.out.2.2; omega
      have hst := steps_hp hh.out
      have hwn : IntKind.i64.wrap (n : Int) = (n : Int) := IntWalk.i64_in _ (by omega)
      rw [hwn] at hst
      have hdo := does_hp (p.kind, p.v, p.n) hh.out hf.out.bel.size hrel'.out.1 hrow.out (by rw [hrl]; omega)
      rw [hrl] at hdo
      unfold dV at hdo
      simp only at hdo
      clear hrl hwn
      by_cases hkind : p.kind = 2
      · have hdg := digits_r (rl + 1) wr (by omega)
        have hdgw := fun (W : World) => digits_r (rl + 1) W (by omega)
        have hcast : ((rl + 1 : Nat) : Int) = (rl : Int) + 1 := by omega
        have hD7 : digV (rl + 1) ≤ 7 := digV_le 7 (rl + 1) (by omega)
        obtain ⟨D, hDe⟩ : ∃ D, D = digV (rl + 1) := ⟨_, rfl⟩
        rw [← hDe] at hdgw hD7
        rw [hcast] at hdgw
        have HDG := Lib.hid hdgw; have HDE := Lib.hid hDe
        have HNB := Lib.hid hnb
        clear hdg hdgw hDe hcast
        have hdu := due_r p.n hrow.out (by rw [HRL.out]; omega)
        rw [HRL.out] at hdu
        have hdnl := dueN_le r p.n
        obtain ⟨M, hM⟩ : ∃ M, M = dueN r p.n := ⟨_, rfl⟩
        have hM80 : M ≤ 80 := by rw [HRL.out] at hdnl; omega
        have HM := Lib.hid hM
        have hlenM : ((r.take (dueN r p.n)).map (·.1)).length = M := by rw [hM, List.length_map, List.length_take]; exact Nat.min_eq_left hdnl
        have HLM := Lib.hid hlenM
        have HDU := Lib.hid hdu; have HST := Lib.hid hst; have HDO0 := Lib.hid hdo
        have hw1 : IntKind.i64.wrap (3 * (M : Int)) = 3 * (M : Int) := IntWalk.i64_in _ (by omega)
        have hmul : M * D ≤ 80 * 7 := Nat.mul_le_mul hM80 hD7
        obtain ⟨Q, hQ⟩ : ∃ Q, Q = M * D := ⟨_, rfl⟩
        have hQe : 3 * (M : Int) * (D : Int) = 3 * (Q : Int) := by rw [hQ, Int.natCast_mul, Int.mul_assoc]
        have hw2 : IntKind.i64.wrap (3 * (M : Int) * (D : Int)) = 3 * (Q : Int) := by rw [hQe]; exact IntWalk.i64_in _ (by omega)
        have HQ := Lib.hid hQ
        clear hdu hdnl hM hlenM hst hdo hmul hQ hQe hD7
        go_wp2_with fail
        refine HST.out.mono ?_
        rintro e w1 ⟨rfl, rfl⟩
        go_wp2_with fail
        refine HDU.out.mono ?_
        rintro e w2 ⟨v2, u2, rfl, _, ho2, hb2⟩
        obtain ⟨A2, c2, rfl, _⟩ := ho2.reads
        rw [HLM.out]
        have hda2 := hda.fx (by rw [block_of_add]; exact hxb) (hf.out.bel.trans (hb2.mono hf.out.bel.size))
        obtain ⟨t0, t1, t2, _⟩ := hda2
        have t0' : w2.cell? (x.add (k * 3)) = some (.int .i64 p.kind) := t0
        have t1' : w2.cell? ⟨(x.add (k * 3)).block, (x.add (k * 3)).off + 1, none⟩ = some (.int .i64 p.v) := t1
        have t2' : w2.cell? ⟨(x.add (k * 3)).block, (x.add (k * 3)).off + 2, none⟩ = some (.int .i64 p.n) := t2
        have hdo2 := does_hp (2, p.v, p.n) (hh.out.below hb2 (Nat.le_refl _)) (Nat.le_trans hf.out.bel.size hb2.size) hrel'.out.1 (hrow.out.below hb2 (Nat.le_refl _)) (by rw [HRL.out]; omega)
        rw [HRL.out] at hdo2
        unfold dV at hdo2
        simp only at hdo2
        have hf2 := hf.out.trans (Fx.of_below hb2 hf.out.bel.size (Nat.le_refl _))
        have HDO := Lib.hid hdo2; have HF2 := Lib.hid hf2
        clear t0 t1 t2 hdo2 hb2 ho2 HDU HST HDO0 p0 p1 p2 hf2
        go_wp2_with fail
        refine HDO.out.mono ?_
        rintro e w3 ⟨v3, rfl, hrow3, ts3, n3, h3, r3, f3, g1, g2⟩
        have hdn := doesN_le r (2, p.v, p.n) (by rw [HRL.out]; omega)
        have hn3 : n3 ≤ (k + 1) * 1680 := by have := hrel'.out.2.2; rw [Nat.add_mul]; omega
        have hwn3 : IntKind.i64.wrap (n3 : Int) = (n3 : Int) := IntWalk.i64_in _ (by omega)
        have hst3 := steps_hp h3
        rw [hwn3] at hst3
        have hge : ¬ (n3 : Int) < (n : Int) := by omega
        have hsub : IntKind.i64.wrap ((n3 : Int) - (n : Int)) = (n3 : Int) - (n : Int) := IntWalk.i64_in _ (by omega)
        have hle : ¬ 3 * (Q : Int) < (n3 : Int) - (n : Int) := by
          have h5 := g2
          unfold doesN at h5
          rw [if_pos rfl, ← HM.out] at h5
          rw [HRL.out, ← HDE.out] at h5
          have h6 : M * (3 * D) = 3 * Q := by rw [HQ.out, Nat.mul_left_comm]
          omega
        have hrl3 : (doesR r (2, p.v, p.n)).length ≤ k + 1 := by have := doesR_len r (2, p.v, p.n); have := hrel'.out.2.1; omega
        obtain ⟨A3, c3, rfl, hrc3⟩ := hrow3.len
        have HROW3 := Lib.hid hrow3; have HH3 := Lib.hid h3; have HREL3 := Lib.hid (show Rel ts3 (doesR r (2, p.v, p.n)) ∧ (doesR r (2, p.v, p.n)).length ≤ k + 1 ∧ n3 ≤ (k + 1) * 1680 from ⟨r3, hrl3, hn3⟩)
        have HF3 := Lib.hid (HF2.out.trans f3); have HST3 := Lib.hid hst3; have HST32 := Lib.hid hst3
        clear hrow3 h3 r3 f3 g1 g2 hrl3 hn3 hst3 hdn hwn3 HDO
        go_wp2_with fail
        refine HST3.out.mono ?_
        rintro e w4 ⟨rfl, rfl⟩
        go_wp2_with fail
        refine HST32.out.mono ?_
        rintro e w5 ⟨rfl, rfl⟩
        go_wp2_with fail
        refine (HDG.out _).mono ?_
        rintro e w6 ⟨rfl, rfl⟩
        go_wp2_with fail
        have hk1 : k + 1 ≤ n80 := by omega
        refine ⟨⟨k + 1, ts3, doesR r (2, p.v, p.n), n3, hk1, by go_num, HROW3, HH3, HREL3, HF3⟩, ?_⟩
        clear HROW3 HH3 HREL3 HF3 hrel' hrow hf hh
        simp only [intOf]
        omega
      · have hdg := digits_r (rl + 1) wr (by omega)
        have hdgw := fun (W : World) => digits_r (rl + 1) W (by omega)
        have hcast : ((rl + 1 : Nat) : Int) = (rl : Int) + 1 := by omega
        have hD7 : digV (rl + 1) ≤ 7 := digV_le 7 (rl + 1) (by omega)
        obtain ⟨D, hDe⟩ : ∃ D, D = digV (rl + 1) := ⟨_, rfl⟩
        rw [← hDe] at hdgw hD7
        rw [hcast] at hdgw
        have HDG := Lib.hid hdgw; have HDE := Lib.hid hDe
        have HNB := Lib.hid hnb
        clear hdg hdgw hDe hcast
        have HST := Lib.hid hst; have HDO := Lib.hid hdo
        have hk2 : (p.kind == 2) = false := by rw [beq_eq_false_iff_ne]; exact hkind
        have hw2 : IntKind.i64.wrap (3 * (D : Int)) = 3 * (D : Int) := IntWalk.i64_in _ (by omega)
        clear hst hdo
        go_wp2_with fail
        refine HST.out.mono ?_
        rintro e w1 ⟨rfl, rfl⟩
        go_wp2_with fail
        refine HDO.out.mono ?_
        rintro e w3 ⟨v3, rfl, hrow3, ts3, n3, h3, r3, f3, g1, g2⟩
        have hdn := doesN_le r (p.kind, p.v, p.n) (by rw [HRL.out]; omega)
        have hn3 : n3 ≤ (k + 1) * 1680 := by have := hrel'.out.2.2; rw [Nat.add_mul]; omega
        have hwn3 : IntKind.i64.wrap (n3 : Int) = (n3 : Int) := IntWalk.i64_in _ (by omega)
        have hst3 := steps_hp h3
        rw [hwn3] at hst3
        have hge : ¬ (n3 : Int) < (n : Int) := by omega
        have hsub : IntKind.i64.wrap ((n3 : Int) - (n : Int)) = (n3 : Int) - (n : Int) := IntWalk.i64_in _ (by omega)
        have hle : ¬ 3 * (D : Int) < (n3 : Int) - (n : Int) := by
          have h5 := g2
          unfold doesN at h5
          simp only [hkind, if_false] at h5
          rw [HRL.out, ← HDE.out] at h5
          omega
        have hrl3 : (doesR r (p.kind, p.v, p.n)).length ≤ k + 1 := by have := doesR_len r (p.kind, p.v, p.n); have := hrel'.out.2.1; omega
        obtain ⟨A3, c3, rfl, hrc3⟩ := hrow3.len
        have HROW3 := Lib.hid hrow3; have HH3 := Lib.hid h3; have HREL3 := Lib.hid (show Rel ts3 (doesR r (p.kind, p.v, p.n)) ∧ (doesR r (p.kind, p.v, p.n)).length ≤ k + 1 ∧ n3 ≤ (k + 1) * 1680 from ⟨r3, hrl3, hn3⟩)
        have HF3 := Lib.hid (hf.out.trans f3); have HST3 := Lib.hid hst3; have HST32 := Lib.hid hst3
        clear hrow3 h3 r3 f3 g1 g2 hrl3 hn3 hst3 hdn hwn3 HDO
        go_wp2_with fail
        refine HST3.out.mono ?_
        rintro e w4 ⟨rfl, rfl⟩
        go_wp2_with fail
        refine HST32.out.mono ?_
        rintro e w5 ⟨rfl, rfl⟩
        go_wp2_with fail
        refine (HDG.out _).mono ?_
        rintro e w6 ⟨rfl, rfl⟩
        go_wp2_with fail
        have hk1 : k + 1 ≤ n80 := by omega
        refine ⟨⟨k + 1, ts3, doesR r (p.kind, p.v, p.n), n3, hk1, by go_num, HROW3, HH3, HREL3, HF3⟩, ?_⟩
        clear HROW3 HH3 HREL3 HF3 hrel' hrow hf hh
        simp only [intOf]
        omega
    · have hor : ¬ k < len0 ∨ ¬ k < 80 := by have := HN80.out; omega
      have hend : (decide ((k : Int) < (len0 : Int)) && decide ((k : Int) < 80)) = false := by
        rcases hor with h | h
        · rw [decide_eq_false (by omega), Bool.false_and]
        · rw [decide_eq_false (p := (k : Int) < 80) (by omega), Bool.and_false]
      have HL := Lib.hid lives_hp
      by_cases hl1 : (k : Int) < (len0 : Int)
      · have hl2 : ¬ (k : Int) < 80 := by rcases hor with h | h <;> omega
        clear hor hend
        go_wp2_with fail
        refine (HL.out _).mono ?_
        rintro e w1 ⟨rfl, hb1⟩
        have HB1 := Lib.hid hb1
        clear hb1
        go_wp2_with fail
        go_ret
        exact ⟨rfl, hf.out.bel.trans (HB1.out.mono hf.out.bel.size)⟩
      · clear hor hend
        go_wp2_with fail
        refine (HL.out _).mono ?_
        rintro e w1 ⟨rfl, hb1⟩
        have HB1 := Lib.hid hb1
        clear hb1
        go_wp2_with fail
        go_ret
        exact ⟨rfl, hf.out.bel.trans (HB1.out.mono hf.out.bel.size)⟩
end Go.Proofs.Ytglgficmfpecgaa.heapSteps
