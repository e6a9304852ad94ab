
/-
  How many workers; the places of the picks that are a worker's, told one by one.
-/
import Derived.Test.YtgongcbbbhdjeaaFrR
import Derived.Test.YtgongcbbbhdjeaaFrM
import Derived.Test.YtgongcbbbhdjeaaFrP
set_option linter.unusedVariables false
set_option linter.unusedSimpArgs false
namespace Go.Proofs.Ytgongcbbbhdjeaa
open Go.RowKit Go.Shelf Plain
attribute [local go_sem] Oper.semAt_some

theorem max2_int (a b : Int) (W : World) : (Builtin.max_ #[3, 3] 3 #[.int .i64 a, .int .i64 b]).run Try.prog W = .ok (.int .i64 (max a b)) W := by
  rw [run_max_int2]
  simp only [Int.max_def]
  congr 2
  split <;> split <;> omega
theorem min2_int (a b : Int) (W : World) : (Builtin.min_ #[3, 3] 3 #[.int .i64 a, .int .i64 b]).run Try.prog W = .ok (.int .i64 (min a b)) W := by
  rw [run_min_int2]
  simp only [Int.min_def]
  congr 2
  split <;> split <;> omega
theorem within_any (n : Int) (w : World) (h1 : -9223372036854775808 ≤ n) (h2 : n ≤ 9223372036854775807) :
    Calls Try.prog 28 #[.int .i64 n] w fun e w' => e = .returned (.int .i64 (manyV n : Int)) ∧ w' = w := by
  have hv : min (max n 1) 64 = (manyV n : Int) := by unfold manyV; omega
  have hmax := max2_int n 1
  have hmin := min2_int (max n 1) 64
  rw [hv] at hmin
  go_enter Try.func28, Try.ntmps28
  go_wp2_with fail
  go_ret
  exact ⟨rfl, rfl⟩
theorem places_any (w : World) (A : Option Addr) (N c : Nat) (n : Int) (h1 : -9223372036854775808 ≤ n) (h2 : n ≤ 9223372036854775807) :
    Calls Try.prog 27 #[.slice A N c, .int .i64 n] w fun e w' => e = .returned (.func (.func 32) #[] #[.pointer (some ⟨w.heap.size, 0, none⟩), .pointer (some ⟨w.heap.size + 1, 0, none⟩)]) ∧
      w' = (w.alloc (.cells #[.slice A N c] 22)).alloc (.cells #[.int .i64 (manyV n : Int)] 3) := by
  have hw := fun W => within_any n W h1 h2
  go_enter Try.func27, Try.ntmps27
  go_wp2_with fail
  refine (hw _).mono ?_
  rintro e w1 ⟨rfl, rfl⟩
  go_wp2_with fail
  go_ret
  exact ⟨rfl, rfl⟩
/-- What the function that tells must find. -/
def PlacesN (w : World) (bx bn : Nat) (A : Option Addr) (N c M : Nat) (l : List Int) : Prop :=
  w.cell? ⟨bx, 0, none⟩ = some (.slice A N c) ∧ w.cell? ⟨bn, 0, none⟩ = some (.int .i64 (M : Int)) ∧ ∃ BB, Reads w BB 1 A N (l.map EnI)
set_option maxRecDepth 100000 in
set_option maxHeartbeats 2000000 in
theorem places_in (n : Nat) (hn : 1 ≤ n) (q bx bn : Nat) (A : Option Addr) (N c M : Nat) (l : List Int) (hl : l.length = N) (hN : N ≤ 140737488355328) (J Jx : List Nat → World → Prop)
    (hJ : ∀ pre W, J pre W → PlacesN W bx bn A N c M l)
    (hY : ∀ (pre : List Nat) (x : Nat) (W : World), J pre W → (x < N ∧ isW M (gi l x) = true ∧ pre = placesV l M x) → YieldAt Fence.wide (n - 1) Try.prog q #[.int .i64 (x : Int)] W fun e W' =>
      (e = .returned (.bool true) ∧ J (pre ++ [x]) W') ∨ (e = .returned (.bool false) ∧ Jx (pre ++ [x]) W'))
    (W : World) (h0 : J [] W) :
    CallsIn Fence.wide n Try.prog 32 #[.func (.yield q) #[] #[], .pointer (some ⟨bx, 0, none⟩), .pointer (some ⟨bn, 0, none⟩)] W fun e W' => (∃ v, e = .returned v) ∧
      (J (placesV l M N) W' ∨ ∃ k, k < N ∧ Jx (placesV l M (k + 1)) W') := by
  refine callsIn_of_wp Try.func32 rfl trivial ?_ rfl
  simp only [Try.ntmps32, List.size_toArray, List.length_cons, List.length_nil, Nat.reduceAdd, Nat.reduceSub, Array.replicate_succ, Array.replicate_zero, List.push_toArray, List.append_toArray, List.nil_append, List.cons_append]
  obtain ⟨c0, c1, -⟩ := hJ _ _ h0
  have hro : Fence.wide.round = none := rfl
  have HJ := Lib.hid hJ; have HY := Lib.hid hY; have H0 := Lib.hid h0; have HL := Lib.hid hl
  clear hJ hY h0 hl
  gi_wp2
  clear c0 c1
  gi_loopw [8] (fun s8 wr => ∃ k : Nat, k ≤ N ∧ s8 = .int .i64 (k : Int) ∧ Hid (J (placesV l M k) wr)) (fun s8 _ => N - (intOf s8).toNat)
  case atStart => exact ⟨0, by omega, rfl, H0⟩
  case round =>
    obtain ⟨k, hk, rfl, HJk⟩ := hrel
    by_cases hlt : k < N
    · obtain ⟨c0, c1, BB, hr⟩ := HJ.out _ _ HJk.out
      obtain ⟨ad, x, rfl, _, hx, hcx⟩ := hr.num hlt
      have hgx : gi l k = x := by unfold gi; rw [hx]; rfl
      have q1 : (k : Int) < (N : Int) := by omega
      have q0 : (0 : Int) ≤ (k : Int) := by omega
      by_cases hx0 : x < 0
      · have e1 : placesV l M (k + 1) = placesV l M k := placesV_no (by rw [hgx]; simp [isW]; omega)
        have HN := Lib.hid (e1 ▸ HJk.out)
        clear hx e1 hgx hr
        have d0 : ¬ (0 ≤ x) := by omega
        gi_wp2
        refine ⟨(fun f e => nomatch e), ?_⟩
        gi_wp2
        exact ⟨⟨k + 1, by omega, by go_num, HN⟩, by simp [intOf]; omega⟩
      · by_cases hxM : x < (M : Int)
        · have hw : isW M (gi l k) = true := by rw [hgx]; exact isW_iff.2 ⟨by omega, hxM⟩
          have e1 : placesV l M (k + 1) = placesV l M k ++ [k] := placesV_yes hw
          obtain ⟨fn, tmps, assign, body, hy, hR⟩ := HY.out _ k wr HJk.out ⟨hlt, hw, rfl⟩
          rw [← e1] at hR
          have d0 : (0 : Int) ≤ x := by omega
          clear hx e1 hgx hr hw hx0
          gi_wp2
          refine hR.mono ?_
          rintro e W3 (⟨rfl, hJ3⟩ | ⟨rfl, hJ3⟩)
          · have H3 := Lib.hid hJ3
            clear hJ3 hR hy
            gi_wp2
            exact ⟨⟨k + 1, by omega, by go_num, H3⟩, by simp [intOf]; omega⟩
          · have H3 := Lib.hid hJ3
            clear hJ3 hR hy
            gi_wp2
            refine bodyPost_ret (results_none rfl _ _ _) rfl ?_
            exact ⟨⟨_, rfl⟩, .inr ⟨k, hlt, H3.out⟩⟩
        · have e1 : placesV l M (k + 1) = placesV l M k := placesV_no (by rw [hgx]; simp [isW]; omega)
          have HN := Lib.hid (e1 ▸ HJk.out)
          clear hx e1 hgx hr
          have d0 : (0 : Int) ≤ x := by omega
          gi_wp2
          refine ⟨(fun f e => nomatch e), ?_⟩
          gi_wp2
          exact ⟨⟨k + 1, by omega, by go_num, HN⟩, by simp [intOf]; omega⟩
    · obtain rfl : k = N := by omega
      gi_wp2
      go_end0
      exact ⟨⟨_, rfl⟩, .inl HJk.out⟩
end Go.Proofs.Ytgongcbbbhdjeaa
