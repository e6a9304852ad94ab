
/-
  The walk of FairTurns.
-/
import Derived.Test.YtgongcbbbhdjeaaRows
import Derived.WalkKit
import Derived.ProofKit
import Derived.OpenShut
import Derived.ShutString
import Derived.ChangeOld
import Derived.Below
import Derived.Test.YtgongcbbbhdjeaaFrT
namespace Go.Proofs.Ytgongcbbbhdjeaa.fairTurns
open Go.ChangeShapes Go.WideShapes Go.ChangeAt Go.RowKit Go.Proofs.Ytgongcbbbhdjeaa Go.Proofs.Ytgongcbbbhdjeaa.Plain
open Go.ChangeMaps (open_string shut_string)
set_option linter.unusedVariables false


theorem turnV_at (l : List Int) (n : Int) {i : Nat} (hi : i < l.length) : (turnV l n)[i]? = l[(i + (aroundV n l.length).toNat) % l.length]? := by
  have hal := aroundV_lt (n := n) (m := (l.length : Int)) (by omega)
  unfold turnV
  generalize hk : (aroundV n l.length).toNat = k
  have hkl : k < l.length := by omega
  rcases Nat.lt_or_ge i (l.length - k) with h | h
  · rw [List.getElem?_append_left (by simp; omega), List.getElem?_drop, Nat.mod_eq_of_lt (by omega), Nat.add_comm]
  · rw [List.getElem?_append_right (by simp; omega), List.length_drop, List.getElem?_take_of_lt (by omega), Nat.mod_eq_sub_mod (by omega), Nat.mod_eq_of_lt (by omega)]
    congr 1
    omega
theorem turnV_length (l : List Int) (n : Int) : (turnV l n).length = l.length := by
  unfold turnV
  generalize (aroundV n l.length).toNat = k
  simp
  omega
set_option maxRecDepth 100000 in
set_option maxHeartbeats 40000000 in
theorem walk (a0 : Option Addr) (len0 cap0 : Nat) (z0 : List Int) (a1 : Int) (w : World) (w0 : IsRow .i64 w a0 len0 cap0 z0) (w1 : (Lit.int .i64 a1).wf = true) :
    Calls Try.prog 6 #[.slice a0 len0 cap0, .int .i64 a1] w fun e w' => e = .returned (.bool true) ∧ Below w.heap.size w w' := by
  obtain ⟨l0, hl0, hR0, hfit, hc, hn⟩ := row_int w0
  have ba := wf_i64 w1
  obtain ⟨N, hN⟩ : ∃ N, N = min len0 30 := ⟨_, rfl⟩
  have hR := hR0.few (m := N) (by omega)
  have hl : (l0.take N).length = N := by simp; omega
  generalize l0.take N = l at hR hl
  have hfew := fun W => few_any W a0 len0 cap0 30 hc hn (by omega)
  rw [← hN] at hfew
  have hturn := turn_any w _ a0 N cap0 l hR hl (by omega) (by omega) (Nat.le_refl _) a1 ba.1 ba.2
  have htl : (turnV l a1).length = N := (turnV_length l a1).trans hl
  have htat := fun i (hi : i < N) => turnV_at l a1 (i := i) (by omega)
  rw [hl] at htat
  have har : 0 < N → ∀ W, Calls Try.prog 12 #[.int .i64 a1, .int .i64 (N : Int)] W fun e w' => e = .returned (.int .i64 ((aroundV a1 (N : Int)).toNat : Int)) ∧ W = w' := by
    intro h0 W
    have hal := aroundV_lt (n := a1) (m := (N : Int)) (by omega)
    rw [Int.toNat_of_nonneg hal.1]
    exact around_any a1 N W ba.1 ba.2 (by omega) (by omega)
  have hk0 : 0 < N → (aroundV a1 (N : Int)).toNat < N := by
    intro h0
    have hal := aroundV_lt (n := a1) (m := (N : Int)) (by omega)
    omega
  generalize (aroundV a1 (N : Int)).toNat = k0 at htat har hk0
  have HF := Lib.hid hfew; have HT := Lib.hid hturn; have HTL := Lib.hid htl; have HTA := Lib.hid htat; have HAR := Lib.hid har; have HR := Lib.hid hR; have HL := Lib.hid hl
  have hN30 : N ≤ 30 := by omega
  clear hfew hturn htl htat har hR hR0 hl hfit w0 w1 ba hN hl0 hc hn
  go_enter Try.func6, Try.ntmps6
  go_wp2_with fail
  refine (HF.out _).mono ?_
  rintro e w' ⟨rfl, rfl⟩
  clear HF
  go_wp2_with fail
  refine HT.out.mono ?_
  rintro e w2 ⟨v, rfl, ho, hb⟩
  obtain ⟨A', c', rfl, hc', hrd⟩ := ho.slice
  rw [HTL.out] at hrd hc' ⊢
  have HRD := Lib.hid hrd; have HB := Lib.hid hb
  clear ho hrd hb HT
  go_wp2_with fail
  go_loopw [6] (fun s6 wr => ∃ i d : Nat, i ≤ N ∧ s6 = .int .i64 (i : Int) ∧ wr = w2.drewN d) (fun s6 _ => N - (intOf s6).toNat)
  case atStart => exact ⟨0, 0, by omega, rfl, rfl⟩
  case round =>
    obtain ⟨i, d, hi, rfl, rfl⟩ := hrel
    by_cases hlt : i < N
    · have hk := hk0 (by omega)
      have har := HAR.out (by omega)
      have hm : Int.tmod ((i : Int) + (k0 : Int)) (N : Int) = (((i + k0) % N : Nat) : Int) := by
        rw [Int.tmod_eq_emod_of_nonneg (by omega)]
        simp
      have hmN : (i + k0) % N < N := Nat.mod_lt _ (by omega)
      have hta := HTA.out i hlt
      generalize (i + k0) % N = m at hm hmN hta
      obtain ⟨ad, x, rfl, hab, hx, hcx0⟩ := HRD.out.num (k := i) hlt
      obtain ⟨ad2, y, rfl, hab2, hy, hcy0⟩ := HR.out.num (k := m) hmN
      rw [hx, hy] at hta
      injection hta with hta
      subst hta
      have hcy : w2.cell? (ad2.add m) = some (.int .i64 x) := (HB.out.cell (p := ad2.add m) (by rw [block_of_add]; exact hab2)).trans hcy0
      have q0 : (i : Int) < (N : Int) := by omega
      have q1 : (m : Int) < (N : Int) := by omega
      have q2 : (0 : Int) ≤ (i : Int) := by omega
      have q3 : (0 : Int) ≤ (m : Int) := by omega
      have q4 : ¬ ((N : Int) = 0) := by omega
      have hw : IntKind.i64.wrap ((i : Int) + (k0 : Int)) = (i : Int) + (k0 : Int) := IntWalk.i64_in _ (by omega)
      have HA := Lib.hid har
      clear har hx hy hcy0 hab hab2
      go_wp2_with fail
      refine (HA.out _).mono ?_
      rintro e w' ⟨rfl, rfl⟩
      go_wp2_with fail
      go_quiet (fail)
      go_wp2_with fail
      exact ⟨⟨i + 1, _, by omega, by go_num, rfl⟩, by simp [intOf]; omega⟩
    · clear HAR HTA HRD HR
      go_wp2_with fail
      refine (lives_fr _).mono ?_
      rintro e w' ⟨rfl, hbl⟩
      go_wp2_with fail
      go_ret
      exact ⟨rfl, (below_drews HB.out d).trans (hbl.mono HB.out.size)⟩
end Go.Proofs.Ytgongcbbbhdjeaa.fairTurns
