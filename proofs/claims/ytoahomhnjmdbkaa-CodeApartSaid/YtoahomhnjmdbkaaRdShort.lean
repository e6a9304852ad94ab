
/-
  What 'short' tells of the bytes that it is handed: the short number with which they begin, how many bytes it takes, the error.
-/
import Derived.Test.YtoahomhnjmdbkaaReader
namespace Go.Proofs.Ytoahomhnjmdbkaa
open Go.RowKit Plain

def ShRel (xs : List Nat) (n k v : Nat) : Prop := k ≤ n ∧ k ≤ 8 ∧ v < 128 ^ k ∧ rsGo k v (xs.drop k) = rs xs
def Told (xs : List Nat) (e : Ending) : Prop := e = .returned (.tuple #[.int .i64 ((rs xs).1 : Int), .int .i64 ((rs xs).2.1 : Int), .int .i64 ((rs xs).2.2 : Int)])

theorem told_of {xs : List Nat} {a b c : Nat} {b' : Int} (h : rs xs = (a, b, c)) (hb : b' = (b : Int)) (c' : Int) (hc : c' = (c : Int)) (a' : Int) (ha : a' = (a : Int)) :
    Told xs (.returned (.tuple #[.int .i64 a', .int .i64 b', .int .i64 c'])) := by
  subst hb; subst hc; subst ha
  unfold Told
  rw [h]

set_option maxHeartbeats 1000000 in
set_option maxRecDepth 100000 in
theorem rshort_any (xs : List Nat) (n : Nat) (hl : xs.length = n) (hx : ∀ x ∈ xs, x < 256) (w : World) (BB : Nat) (A : Option Addr) (c : Nat) (ha : Reads w BB 1 A n (BS xs)) (hn : n ≤ 140737488355328) :
    Calls Try.prog 83 #[.slice A n c] w fun e w' => Told xs e ∧ w = w' := by
  have HA := Lib.hid ha
  have HX := Lib.hid hx
  have HLl := Lib.hid hl
  clear ha hx hl
  go_enter Try.func83, Try.ntmps83
  go_wp2_with fail
  go_loop [5, 10] (fun v i => ∃ k vv : Nat, i = .int .i64 (k : Int) ∧ v = .int .i64 (vv : Int) ∧ Hid (ShRel xs n k vv) ∧ k ≤ n ∧ k ≤ 8) (fun _ i => n - (intOf i).toNat)
  case atStart =>
    exact ⟨0, 0, rfl, rfl, ⟨by omega, by omega, by simp, rfl⟩, by omega, by omega⟩
  case round =>
    obtain ⟨k, vv, rfl, rfl, hr, hk, hk8⟩ := hrel
    by_cases hlt : k < n
    · obtain ⟨ad, u, rfl, _, hu, hcell⟩ := HA.out.at_ hlt
      obtain ⟨x, hx, rfl⟩ : ∃ x : Nat, xs[k]? = some x ∧ .int .u8 (x : Int) = u := by
        simp [BS, B] at hu
        exact hu
      have hx256 : x < 256 := HX.out x (List.mem_of_getElem? hx)
      have HXK := Lib.hid hx
      clear hx hu
      obtain ⟨hr1, hr2, hr3, hr4⟩ := hr
      obtain ⟨y, hy⟩ : ∃ y, y = x % 128 := ⟨_, rfl⟩
      obtain ⟨V, hV⟩ : ∃ V, V = vv + y * 128 ^ k := ⟨_, rfl⟩
      have hy128 : y < 128 := by omega
      have hand : bits .and .u8 (x : Int) 127 = (y : Int) := by rw [u8_and127 x hx256, hy]
      have hor : bits .or .i64 (vv : Int) (wrap64 ((y : Int) * 2 ^ (7 * k))) = (V : Int) := by rw [hV]; exact or_shl vv y k hr3 hy128 hk8
      have HR3 := Lib.hid hr3; have HR4 := Lib.hid hr4; have HY := Lib.hid hy; have HV := Lib.hid hV
      clear hr3 hr4 hy hV
      have HT := Lib.hid (rsGo_step HXK.out vv)
      rw [HR4.out] at HT
      by_cases hx128 : x < 128
      · by_cases hx0 : 0 < x
        · have e : rs xs = (V, k + 1, 0) := by rw [HT.out, if_pos ⟨hx128, .inl hx0⟩, HV.out, HY.out]
          have E := Lib.hid e
          clear e
          go_wp2_with fail
          go_ret3
          exact ⟨told_of E.out rfl _ rfl _ rfl, rfl⟩
        · have hxb : ((x : Int) == 0) = true := by rw [beq_iff_eq]; omega
          by_cases hk0' : k = 0
          · have e : rs xs = (V, k + 1, 0) := by rw [HT.out, if_pos ⟨hx128, .inr hk0'⟩, HV.out, HY.out]
            have E := Lib.hid e
            have hkb : ((k : Int) == 0) = true := by rw [beq_iff_eq]; omega
            clear e hk0'
            go_wp2_with fail
            go_ret3
            exact ⟨told_of E.out rfl _ rfl _ rfl, rfl⟩
          · have e : rs xs = (0, 0, 3) := by rw [HT.out, if_neg (by omega), if_pos (.inl (by omega))]
            have E := Lib.hid e
            have hkb : ((k : Int) == 0) = false := by rw [beq_eq_false_iff_ne]; omega
            clear e
            go_wp2_with fail
            go_ret3
            exact ⟨told_of E.out rfl _ rfl _ rfl, rfl⟩
      · have hxb : ((x : Int) == 0) = false := by rw [beq_eq_false_iff_ne]; omega
        by_cases h8 : k = 8
        · have e : rs xs = (0, 0, 3) := by rw [HT.out, if_neg (by omega), if_pos (.inr h8)]
          have E := Lib.hid e
          have hkb : ((k : Int) == 8) = true := by rw [beq_iff_eq]; omega
          clear e h8
          go_wp2_with fail
          go_ret3
          exact ⟨told_of E.out rfl _ rfl _ rfl, rfl⟩
        · have e : rsGo (k + 1) V (xs.drop (k + 1)) = rs xs := by rw [HT.out, if_neg (by omega), if_neg (by omega), HV.out, HY.out]
          have E := Lib.hid e
          have hkb : ((k : Int) == 8) = false := by rw [beq_eq_false_iff_ne]; omega
          clear e
          go_wp2_with fail
          refine ⟨⟨k + 1, V, by go_num, rfl, ⟨by omega, by omega, ?_, E.out⟩, by omega, by omega⟩, by simp [intOf]; omega⟩
          have h1 := HR3.out
          have h2 : y * 128 ^ k ≤ 127 * 128 ^ k := Nat.mul_le_mul_right _ (by omega)
          rw [HV.out, Nat.pow_succ]
          omega
    · have e : rs xs = (0, 0, 2) := by rw [← hr.2.2.2]; exact rsGo_end (by have := HLl.out; omega) _
      have E := Lib.hid e
      clear e
      go_wp2_with fail
      go_ret3
      exact ⟨told_of E.out rfl _ rfl _ rfl, rfl⟩
end Go.Proofs.Ytoahomhnjmdbkaa
