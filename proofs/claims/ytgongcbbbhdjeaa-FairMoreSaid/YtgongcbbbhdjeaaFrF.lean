
/-
  The document's: is each worker among picks; are picks fair within n.
-/
import Derived.Test.YtgongcbbbhdjeaaFrC
set_option linter.unusedVariables false
set_option linter.unusedSimpArgs false
namespace Go.Proofs.Ytgongcbbbhdjeaa
open Go.RowKit Go.Shelf Plain

set_option maxHeartbeats 4000000 in
theorem refAll_any (w : World) (BB : Nat) (A : Option Addr) (N c : Nat) (l : List Int) (hr : Reads w BB 1 A N (l.map EnI)) (hl : l.length = N) (hN : N ≤ 1000000) (n : Int) :
    Calls Try.prog 29 #[.slice A N c, .int .i64 n] w fun e w' => e = .returned (.bool (allL l (manyV n))) ∧ w' = w := by
  have hmany := many_any n
  have hM1 := manyV_pos n
  have hM2 := manyV_le n
  generalize manyV n = M at *
  have HR := Lib.hid hr; have HL := Lib.hid hl; have HM := Lib.hid hmany
  clear hr hl hmany
  go_enter Try.func29, Try.ntmps29
  go_wp2_with fail
  go_loopw [5] (fun s5 wr => ∃ v : Nat, v ≤ M ∧ s5 = .int .i64 (v : Int) ∧ Hid (∀ u : Nat, u < v → (u : Int) ∈ l) ∧ w = wr) (fun s5 _ => M - (intOf s5).toNat)
  case atStart => exact ⟨0, by omega, rfl, Lib.hid (fun u h => by omega), rfl⟩
  case round =>
    obtain ⟨v, hv, rfl, HA, rfl⟩ := hrel
    by_cases hlt : v < M
    · go_wp2_with fail
      refine (HM.out _).mono ?_
      rintro e w' ⟨rfl, rfl⟩
      go_wp2_with fail
      go_loopw [6, 7] (fun s6 s7 wr => ∃ i : Nat, i ≤ N ∧ s7 = .int .i64 (i : Int) ∧ s6 = .bool ((l.take i).contains (v : Int)) ∧ w' = wr) (fun _ s7 _ => N - (intOf s7).toNat)
      case atStart => exact ⟨0, by omega, rfl, by simp, rfl⟩
      case round =>
        obtain ⟨i, hi, rfl, rfl, rfl⟩ := hrel
        by_cases hlt2 : i < N
        · obtain ⟨ad, x, rfl, _, hx, hcx⟩ := HR.out.num hlt2
          have hs : (l.take (i + 1)).contains (v : Int) = ((l.take i).contains (v : Int) || (x == (v : Int))) := by
            rw [List.take_add_one, hx]
            simp [List.contains_eq_any_beq, List.any_append, Bool.beq_comm, eq_comm]
            rfl
          have q1 : (i : Int) < (N : Int) := by omega
          have q0 : (0 : Int) ≤ (i : Int) := by omega
          have HS := Lib.hid hs
          clear hx hs
          rcases hb : (l.take i).contains (v : Int) with _ | _
          · have hs := HS.out
            rw [hb, Bool.false_or] at hs
            have HS2 := Lib.hid hs
            clear hs HS hb
            go_wp2_with fail
            exact ⟨⟨i + 1, by omega, by go_num, by rw [HS2.out], by simp⟩, by simp [intOf]; omega⟩
          · have hs := HS.out
            rw [hb, Bool.true_or] at hs
            have HS2 := Lib.hid hs
            clear hs HS hb
            go_wp2_with fail
            exact ⟨⟨i + 1, by omega, by go_num, by rw [HS2.out], by simp⟩, by simp [intOf]; omega⟩
        · obtain rfl : i = N := by omega
          have hti : l.take i = l := List.take_of_length_le (by rw [HL.out]; omega)
          rcases hb : (l.take i).contains (v : Int) with _ | _
          · have hres : allL l M = false := by
              rw [Bool.eq_false_iff]
              intro h
              have := allL_iff.1 h v hlt
              rw [hti] at hb
              simp at hb
              exact hb this
            have HRES := Lib.hid hres
            clear hb hti hres
            go_wp2_with fail
            go_ret
            exact ⟨by rw [HRES.out]; rfl, by simp⟩
          · have hmem : (v : Int) ∈ l := by
              rw [hti] at hb
              simpa using hb
            have HA2 : Hid (∀ u : Nat, u < v + 1 → (u : Int) ∈ l) := Lib.hid (fun u h => by
              rcases Nat.lt_or_ge u v with h1 | h1
              · exact HA.out u h1
              · obtain rfl : u = v := by omega
                exact hmem)
            clear hb hti hmem
            go_wp2_with fail
            exact ⟨⟨v + 1, by omega, by go_num, HA2, by simp⟩, by simp [intOf]; omega⟩
    · obtain rfl : v = M := by omega
      have hres : allL l v = true := allL_iff.2 HA.out
      have HRES := Lib.hid hres
      clear hres
      go_wp2_with fail
      refine (HM.out _).mono ?_
      rintro e w' ⟨rfl, rfl⟩
      go_wp2_with fail
      go_ret
      exact ⟨by rw [HRES.out]; rfl, by simp⟩

set_option maxHeartbeats 4000000 in
theorem refFair_any (w : World) (BB : Nat) (A : Option Addr) (N c : Nat) (l : List Int) (hr : Reads w BB 1 A N (l.map EnI)) (hl : l.length = N) (hc : N ≤ c) (hN : N ≤ 1000000) (n m : Int) (h1 : -9223372036854775808 ≤ m) (h2 : m ≤ 9223372036854775807) :
    Calls Try.prog 14 #[.slice A N c, .int .i64 n, .int .i64 m] w fun e w' => e = .returned (.bool (fairI l (manyV n) m)) ∧ w' = w := by
  rw [fairI_doc l (manyV n) m (manyV_pos n), hl]
  by_cases hm : m < 1
  · rw [if_pos hm]
    clear hr
    by_cases h0 : N = 0
    · subst h0
      go_enter Try.func14, Try.ntmps14
      go_wp2_with fail
      go_ret
      exact ⟨rfl, rfl⟩
    · have hb : ((N : Int) == 0) = false := by simpa using h0
      have hd : decide (N = 0) = false := by simpa using h0
      rw [hd]
      go_enter Try.func14, Try.ntmps14
      go_wp2_with fail
      go_ret
      exact ⟨rfl, rfl⟩
  · rw [if_neg hm]
    obtain ⟨k, rfl⟩ := Int.eq_ofNat_of_zero_le (show 0 ≤ m by omega)
    rw [Int.toNat_natCast]
    have hall : ∀ i : Nat, i + k ≤ N → Calls Try.prog 29 #[.slice (A.map (·.add i)) k (c - i), .int .i64 n] w fun e w' => e = .returned (.bool (allL (cutL l i k) (manyV n))) ∧ w' = w := by
      intro i hi
      have hcut := hr.cut (k := i) (cap := c) (by omega) hc
      rw [if_neg (by omega), Nat.mul_one, ← List.map_drop] at hcut
      have hfew := hcut.few (m := k) (by omega)
      exact refAll_any w BB _ k _ (cutL l i k) hfew (by unfold cutL; simp; omega) (by omega) n
    have HC := Lib.hid hall; have HL := Lib.hid hl
    generalize manyV n = M at *
    clear hr hl hall
    go_enter Try.func14, Try.ntmps14
    go_wp2_with fail
    go_loopw [7] (fun s7 wr => ∃ i : Nat, (i = 0 ∨ i + k ≤ N + 1) ∧ s7 = .int .i64 (i : Int) ∧ Hid (∀ j, j < i → allL (cutL l j k) M = true) ∧ w = wr) (fun s7 _ => N + 1 - (intOf s7).toNat)
    case atStart => exact ⟨0, .inl rfl, rfl, Lib.hid (fun j h => by omega), rfl⟩
    case round =>
      obtain ⟨i, hi, rfl, HA, rfl⟩ := hrel
      have hw1 : IntKind.i64.wrap ((N : Int) - (k : Int)) = (N : Int) - (k : Int) := IntWalk.i64_in _ (by omega)
      by_cases hlt : i + k ≤ N
      · have hcn := HC.out i hlt
        have q0 : (0 : Int) ≤ (i : Int) := by omega
        have q1 : (i : Int) ≤ (i : Int) + (k : Int) := by omega
        have q2 : (i : Int) + (k : Int) ≤ (c : Int) := by omega
        have q3 : (i : Int) ≤ (N : Int) - (k : Int) := by omega
        have hci : ¬ c = i := by omega
        have HCN := Lib.hid hcn
        clear hcn
        go_wp2_with fail
        refine HCN.out.mono ?_
        rintro e w' ⟨rfl, rfl⟩
        rcases hb : allL (cutL l i k) M with _ | _
        · have hres : fairV l M k = false := by
            rw [Bool.eq_false_iff]
            intro h
            unfold fairV at h
            rw [List.all_eq_true] at h
            have := h i (List.mem_range.2 (by rw [HL.out]; omega))
            rw [hb] at this
            cases this
          have HRES := Lib.hid hres
          clear hb hres HCN
          go_wp2_with fail
          go_ret
          exact ⟨by rw [HRES.out]; rfl, by simp⟩
        · have HA2 : Hid (∀ j, j < i + 1 → allL (cutL l j k) M = true) := Lib.hid (fun j h => by
            rcases Nat.lt_or_ge j i with h1 | h1
            · exact HA.out j h1
            · obtain rfl : j = i := by omega
              exact hb)
          clear hb HCN
          go_wp2_with fail
          exact ⟨⟨i + 1, by omega, by go_num, HA2, by simp⟩, by simp [intOf]; omega⟩
      · have hres : fairV l M k = true := by
          unfold fairV
          rw [List.all_eq_true]
          intro j hj
          have := List.mem_range.1 hj
          rw [HL.out] at this
          exact HA.out j (by omega)
        have q3 : ¬ (i : Int) ≤ (N : Int) - (k : Int) := by omega
        have HRES := Lib.hid hres
        clear hres
        go_wp2_with fail
        go_ret
        exact ⟨by rw [HRES.out]; rfl, by simp⟩
end Go.Proofs.Ytgongcbbbhdjeaa
