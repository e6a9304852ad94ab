
/-
  The walk of FairCounts.
-/
import Derived.Test.YtgongcbbbhdjeaaRows
import Derived.WalkKit
import Derived.ProofKit
import Derived.OpenShut
import Derived.ShutString
import Derived.ChangeOld
import Derived.Below
import Derived.Test.YtgongcbbbhdjeaaFrC
namespace Go.Proofs.Ytgongcbbbhdjeaa.fairCounts
open Go.ChangeShapes Go.WideShapes Go.ChangeAt Go.RowKit Go.Proofs.Ytgongcbbbhdjeaa Go.Proofs.Ytgongcbbbhdjeaa.Plain
open Go.ChangeMaps (open_string shut_string)
set_option linter.unusedVariables false


set_option maxRecDepth 100000 in
set_option maxHeartbeats 40000000 in
theorem walk (a0 : Option Addr) (len0 cap0 : Nat) (z0 : List Int) (a1 : Int) (a2 : Int) (w : World) (w0 : IsRow .i64 w a0 len0 cap0 z0) (w1 : (Lit.int .i64 a1).wf = true) (w2 : (Lit.int .i64 a2).wf = true) :
    Calls Try.prog 4 #[.slice a0 len0 cap0, .int .i64 a1, .int .i64 a2] w fun e w' => e = .returned (.bool true) ∧ Below w.heap.size w w' := by
  obtain ⟨l0, hl0, hR0, hfit, hc, hn⟩ := row_int w0
  have ba := wf_i64 w1
  obtain ⟨N, hN⟩ : ∃ N, N = min len0 25 := ⟨_, rfl⟩
  have hR := hR0.few (m := N) (by omega)
  have hl : (l0.take N).length = N := by simp; omega
  generalize l0.take N = l at hR hl
  have hfew := fun W => few_any W a0 len0 cap0 25 hc hn (by omega)
  rw [← hN] at hfew
  have hcnt := counts_any w _ a0 N cap0 l hR hl (by omega) (Nat.le_refl _) a1 ba.1 ba.2
  have hM1 := manyV_pos a1
  have hM2 := manyV_le a1
  have hmany := many_any a1
  generalize manyV a1 = M at *
  have hN30 : N ≤ 25 := by omega
  have hNc : N ≤ cap0 := by omega
  have HF := Lib.hid hfew; have HC := Lib.hid hcnt; have HM := Lib.hid hmany; have HR := Lib.hid hR; have HL := Lib.hid hl
  clear hfew hcnt hmany hR hR0 hl hfit w0 w1 w2 ba hN hl0 hc hn
  go_enter Try.func4, Try.ntmps4
  go_wp2_with fail
  refine (HF.out _).mono ?_
  rintro e w' ⟨rfl, rfl⟩
  clear HF
  go_wp2_with fail
  refine HC.out.mono ?_
  rintro e w2 ⟨b, rfl, hblk, hb⟩
  have hR2 : Reads w2 w'.heap.size 1 a0 N (l.map EnI) := HR.out.below hb
  have hcn := fun v => refCount_any w2 _ a0 N cap0 l hR2 HL.out (by omega) v
  have hgp := fun v d => gap_any (w2.drewN d) _ a0 N cap0 l (hR2.drewN d) HL.out (by omega) v
  have hrg := fun v d => refGap_any (w2.drewN d) _ a0 N cap0 l (hR2.drewN d) HL.out hNc (by omega) v
  have HBK := Lib.hid hblk; have HB := Lib.hid hb; have HCN := Lib.hid hcn; have HGP := Lib.hid hgp; have HRG := Lib.hid hrg
  clear hblk hb HC hR2 hcn hgp hrg
  go_wp2_with fail
  refine (HM.out _).mono ?_
  rintro e w3 ⟨rfl, rfl⟩
  clear HM
  go_wp2_with fail
  go_loopw [8] (fun s8 wr => ∃ i d : Nat, i ≤ M ∧ s8 = .int .i64 (i : Int) ∧ wr = w3.drewN d) (fun s8 _ => M - (intOf s8).toNat)
  case atStart => exact ⟨0, 0, by omega, rfl, rfl⟩
  case round =>
    obtain ⟨i, d, hi, rfl, rfl⟩ := hrel
    by_cases hlt : i < M
    · have q0 : (i : Int) < (M : Int) := by omega
      have q2 : (0 : Int) ≤ (i : Int) := by omega
      have hcx : w3.cell? ⟨b, i, none⟩ = some (.int .i64 (countV l (i : Int) : Int)) := by
        rw [HBK.out.cell]
        simp [hlt]
      have hcn : ∀ n, Calls Try.prog 18 #[.slice a0 N cap0, .int .i64 (i : Int)] (w3.drewN (d + n)) fun e w' => e = .returned (.int .i64 (countV l (i : Int) : Int)) ∧ ∃ m, w' = w3.drewN (d + m) := fun n =>
        (refCount_any _ _ a0 N cap0 l ((HR.out.below HB.out).drewN (d + n)) HL.out (by omega) (i : Int)).mono fun e w' h => ⟨h.1, n, h.2⟩
      have HCI := Lib.hid hcn
      clear hcn
      go_wp2_with fail
      go_quiet (first | (go_at_call 18; exact HCI.out _))
      go_wp2_with fail
      exact ⟨⟨i + 1, _, by omega, by go_num, rfl⟩, by simp [intOf]; omega⟩
    · clear HCN
      go_wp2_with fail
      refine (HGP.out a2 d).mono ?_
      rintro e w' ⟨rfl, rfl⟩
      go_wp2_with fail
      refine (HRG.out a2 d).mono ?_
      rintro e w' ⟨rfl, rfl⟩
      go_wp2_with fail
      refine (HGP.out 0 d).mono ?_
      rintro e w' ⟨rfl, rfl⟩
      go_wp2_with fail
      refine (HRG.out 0 d).mono ?_
      rintro e w' ⟨rfl, rfl⟩
      go_wp2_with fail
      refine (lives_fr _).mono ?_
      rintro e w' ⟨rfl, hbl⟩
      go_wp2_with fail
      go_ret
      exact ⟨rfl, (below_drews HB.out d).trans (hbl.mono HB.out.size)⟩
end Go.Proofs.Ytgongcbbbhdjeaa.fairCounts
