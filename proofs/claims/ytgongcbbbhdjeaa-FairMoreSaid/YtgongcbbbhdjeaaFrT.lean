
/-
  Picks that are turned: the first ones at the end; the first so many.
-/
import Derived.Test.YtgongcbbbhdjeaaFrL
import Derived.Lib.AppendZeros
set_option linter.unusedVariables false
set_option linter.unusedSimpArgs false
namespace Go.Proofs.Ytgongcbbbhdjeaa
open Go.RowKit Go.Shelf Plain
attribute [local go_sem] Oper.semAt_some

set_option maxHeartbeats 1000000 in
theorem few_any (w : World) (A : Option Addr) (N c m : Nat) (hc : N ≤ c) (hN : N ≤ 9223372036854775807) (hm : m ≤ 1000000) :
    Calls Try.prog 10 #[.slice A N c, .int .i64 (m : Int)] w fun e w' => e = .returned (.slice A (min N m) c) ∧ w' = w := by
  by_cases h : m < N
  · rw [Nat.min_eq_right (by omega)]
    go_enter Try.func10, Try.ntmps10
    go_wp2_with fail
    go_ret
    exact ⟨rfl, rfl⟩
  · rw [Nat.min_eq_left (by omega)]
    go_enter Try.func10, Try.ntmps10
    go_wp2_with fail
    go_ret
    exact ⟨rfl, rfl⟩

set_option maxHeartbeats 2000000 in
theorem grow_any (w : World) (n : Nat) (hn : n ≤ 2000000) :
    Calls Try.prog 33 #[.slice none 0 0, .int .i64 (n : Int)] w fun e w' => ∃ v, e = .returned v ∧ OwnI w' w.heap.size v [] ∧ Below w.heap.size w w' := by
  obtain ⟨i0, hi0, hz0, hz1, hz2⟩ := info_parts info_int
  by_cases h0 : n = 0
  · subst h0
    go_enter Try.func33, Try.ntmps33
    go_wp2_with fail
    go_ret
    exact ⟨_, rfl, OwnI.nil _ _, Below.refl _ _⟩
  · have happ := fun W => Lib.run_append_nil_zeros (P := Try.prog) W 22 3 22 3 i0 (.int .i64 0) .i64 .i64 Try.underlying22 Try.underlying3 hi0 hz0 n (by omega) (by omega) (by omega) (by rw [hz2]; omega)
    have q0 : (0 : Int) < (n : Int) := by omega
    have hcapge := grownCap_ge w n 0 3
    have hcaple := grownCap_le_maxLen w n 0 3 (by unfold maxLen; omega)
    have happ := happ w
    generalize grownCap w n 0 3 = cap at happ hcapge hcaple
    generalize hZ : (Builtin.zeroCells (Value.int .i64 0).cells n ++ Builtin.zeroCells (Value.int .i64 0).cells (cap - n)) = Z at happ
    have hZs : Z.size = cap := by rw [← hZ]; simp [size_zeroCells, Value.cells]; omega
    have HZ := Lib.hid hZs
    clear hZ hZs
    go_enter Try.func33, Try.ntmps33
    go_wp2_with (at_builtin; refine Lib.wpList_append_run _ rfl _ _ _ _ rfl _ _ rfl rfl _ _ happ ?_)
    go_ret
    refine ⟨_, rfl, ⟨rfl, .inr ⟨w.heap.size, cap, Z, rfl, Nat.le_refl _, heap_alloc_new w _, by simp, hcaple, by rw [HZ.out]; simp, by simp⟩⟩, below_drews ((Below.refl w.heap.size w).alloc (Nat.le_refl _) _) 1⟩

set_option maxHeartbeats 4000000 in
theorem concat_any (w : World) (b : Nat) (BB CC : Nat) (A1 A2 : Option Addr) (n1 n2 c1 c2 : Nat) (l1 l2 : List Int) (hb : Blk w b 22 #[.slice A1 n1 c1, .slice A2 n2 c2])
    (hr1 : Reads w BB 1 A1 n1 (l1.map EnI)) (hr2 : Reads w CC 1 A2 n2 (l2.map EnI)) (hB : BB ≤ w.heap.size) (hC : CC ≤ w.heap.size) (h1 : n1 ≤ 1000000) (h2 : n2 ≤ 1000000) :
    Calls Try.prog 30 #[.slice (some ⟨b, 0, none⟩) 2 2] w fun e w' => ∃ v, e = .returned v ∧ OwnI w' w.heap.size v (l1 ++ l2) ∧ Below w.heap.size w w' := by
  obtain ⟨i0, hi0, hz0, hz1, hz2⟩ := info_parts info_int
  have hgrow := fun W => grow_any W (n1 + n2) (by omega)
  have e1 := hr1.1
  have e2 := hr2.1
  simp only [List.length_map, Nat.mul_one] at e1 e2
  have HB := Lib.hid hb; have HR1 := Lib.hid hr1; have HR2 := Lib.hid hr2; have HG := Lib.hid hgrow; have E1 := Lib.hid e1; have E2 := Lib.hid e2
  have hbl := hb.lt
  have c0 : w.cell? ⟨b, 0, none⟩ = some (.slice A1 n1 c1) := (hb.cell 0).trans rfl
  have c1' : w.cell? ⟨b, 1, none⟩ = some (.slice A2 n2 c2) := (hb.cell 1).trans rfl
  clear hb hr1 hr2 hgrow e1 e2
  go_enter Try.func30, Try.ntmps30
  go_wp2_with fail
  go_loopw [3, 11] (fun s3 s11 wr => wr = w ∧ ((s3 = .int .i64 0 ∧ s11 = .int .i64 0) ∨ (s3 = .int .i64 (n1 : Int) ∧ s11 = .int .i64 1) ∨ (s3 = .int .i64 ((n1 : Int) + (n2 : Int)) ∧ s11 = .int .i64 2))) (fun _ s11 _ => 2 - (intOf s11).toNat)
  case atStart => exact ⟨rfl, .inl ⟨rfl, rfl⟩⟩
  case round =>
    obtain ⟨hwr, hst⟩ := hrel
    have hwr := hwr.symm
    subst hwr
    obtain ⟨rfl, rfl⟩ | ⟨rfl, rfl⟩ | ⟨rfl, rfl⟩ := hst
    · have q0 : (0 : Int) ≤ 0 + (n1 : Int) := by omega
      go_wp2_with fail
      exact ⟨⟨by simp, .inr (.inl ⟨by simp, by go_num⟩)⟩, by simp [intOf]⟩
    · have q0 : (0 : Int) ≤ (n1 : Int) + (n2 : Int) := by omega
      go_wp2_with fail
      exact ⟨⟨by simp, .inr (.inr ⟨by simp, by go_num⟩)⟩, by simp [intOf]⟩
    · go_wp2_with fail
      rw [show ((n1 : Int) + (n2 : Int)) = ((n1 + n2 : Nat) : Int) by omega]
      refine (HG.out _).mono ?_
      rintro e w1 ⟨v, rfl, ho, hbe⟩
      have HO := Lib.hid ho; have HBE := Lib.hid hbe
      clear ho hbe
      go_wp2_with fail
      have one : ∀ l : List Int, ∀ u ∈ l.map EnI, u.oneCell' = true := by
        intro l u hu
        obtain ⟨x, _, rfl⟩ := List.mem_map.1 hu
        rfl
      have G0 : Hid (OwnI w1 w.heap.size v []) := HO
      go_loopw [6, 27] (fun s6 s27 wr => ∃ v6, v6 = s6 ∧ Hid (Below w.heap.size w wr) ∧ ((Hid (OwnI wr w.heap.size v6 []) ∧ s27 = .int .i64 0) ∨ (Hid (OwnI wr w.heap.size v6 l1) ∧ s27 = .int .i64 1) ∨ (Hid (OwnI wr w.heap.size v6 (l1 ++ l2)) ∧ s27 = .int .i64 2))) (fun _ s27 _ => 2 - (intOf s27).toNat)
      case atStart => exact ⟨_, rfl, HBE, .inl ⟨G0, rfl⟩⟩
      case round =>
        clear G0 HBE HO
        obtain ⟨v6, hv6, HBE, ⟨HO, rfl⟩ | ⟨HO, rfl⟩ | ⟨HO, rfl⟩⟩ := hrel <;> subst hv6
        · have d0 := (HBE.out.cell (p := ⟨b, 0, none⟩) hbl).trans c0
          have hz := HBE.out.size
          have hrd := HR1.out.below (HBE.out.mono hB)
          have HRD := Lib.hid hrd
          clear hrd
          go_wp2_with (at_builtin; go_must (refine wpList_append_any _ rfl (.tmp 31) (.tmp 32) _ rfl w.heap.size 3 i0 _ 1 8 Try.underlying22 hi0 hz0 hz1 hz2 rfl (by decide) v6 0 [] rfl HO.out BB A1 n1 c1 (l1.map EnI) rfl HRD.out (one _) ?c1 ?c2 hz ?k))
          case c1 => unfold maxLen; omega
          case c2 => omega
          case k =>
          intro v2 w2 ho2 hg2 hat2
          clear hat2
          go_wp2_with fail
          have ho3 : OwnI w2 w.heap.size v2 l1 := by
            unfold OwnI
            rw [E1.out]
            simpa using ho2
          have hb3 := HBE.out.trans ((Below.refl w.heap.size _).grown hg2 (by omega) (fun r hr => (HO.out.lt r hr).1))
          exact ⟨⟨_, rfl, Lib.hid hb3, .inr (.inl ⟨Lib.hid ho3, by go_num⟩)⟩, by simp [intOf]⟩
        · have d0 := (HBE.out.cell (p := ⟨b, 1, none⟩) hbl).trans c1'
          have hz := HBE.out.size
          have hrd := HR2.out.below (HBE.out.mono hC)
          have HRD := Lib.hid hrd
          have ho1 := HO.out
          unfold OwnI at ho1
          rw [E1.out] at ho1
          have HO1 := Lib.hid ho1
          clear hrd ho1
          go_wp2_with (at_builtin; go_must (refine wpList_append_any _ rfl (.tmp 31) (.tmp 32) _ rfl w.heap.size 3 i0 _ 1 8 Try.underlying22 hi0 hz0 hz1 hz2 rfl (by decide) v6 n1 (l1.map EnI) rfl HO1.out CC A2 n2 c2 (l2.map EnI) rfl HRD.out (one _) ?c1 ?c2 hz ?k))
          case c1 => unfold maxLen; omega
          case c2 => omega
          case k =>
          intro v2 w2 ho2 hg2 hat2
          clear hat2
          go_wp2_with fail
          have ho3 : OwnI w2 w.heap.size v2 (l1 ++ l2) := by
            unfold OwnI
            rw [List.length_append, E1.out, E2.out, List.map_append]
            exact ho2
          have hb3 := HBE.out.trans ((Below.refl w.heap.size _).grown hg2 (by omega) (fun r hr => (HO1.out.lt r hr).1))
          exact ⟨⟨_, rfl, Lib.hid hb3, .inr (.inr ⟨Lib.hid ho3, by go_num⟩)⟩, by simp [intOf]⟩
        · go_wp2_with fail
          go_ret
          exact ⟨_, rfl, HO.out, HBE.out⟩

/-- Picks turned: the first ones at the end. -/
def Plain.turnV (l : List Int) (n : Int) : List Int := l.drop (aroundV n l.length).toNat ++ l.take (aroundV n l.length).toNat
set_option maxHeartbeats 4000000 in
theorem turn_any (w : World) (BB : Nat) (A : Option Addr) (N c : Nat) (l : List Int) (hr : Reads w BB 1 A N (l.map EnI)) (hl : l.length = N) (hc : N ≤ c) (hN : N ≤ 1000000) (hBB : BB ≤ w.heap.size) (n : Int) (h1 : -9223372036854775808 ≤ n) (h2 : n ≤ 9223372036854775807) :
    Calls Try.prog 22 #[.slice A N c, .int .i64 n] w fun e w' => ∃ v, e = .returned v ∧ OwnI w' w.heap.size v (turnV l n) ∧ Below w.heap.size w w' := by
  by_cases h0 : N = 0
  · subst h0
    have hl0 : l = [] := List.eq_nil_of_length_eq_zero hl
    subst hl0
    go_enter Try.func22, Try.ntmps22
    go_wp2_with fail
    go_ret
    exact ⟨_, rfl, (by simpa [turnV] using OwnI.nil w w.heap.size), Below.refl _ _⟩
  · have hal := aroundV_lt (n := n) (m := (N : Int)) (by omega)
    have hk : ∃ k : Nat, aroundV n (N : Int) = (k : Int) ∧ k < N := ⟨(aroundV n (N : Int)).toNat, by omega, by omega⟩
    obtain ⟨k, hk, hkN⟩ := hk
    have htv : turnV l n = l.drop k ++ l.take k := by
      unfold turnV
      rw [hl, hk]
      rfl
    rw [htv]
    have hcut := hr.cut (k := k) (cap := c) (by omega) hc
    rw [if_neg (by omega), Nat.mul_one, ← List.map_drop] at hcut
    have hfew := hr.few (m := k) (by omega)
    have HC := Lib.hid hcut; have HF := Lib.hid hfew
    clear hcut hfew hr htv
    have hcon : Calls Try.prog 30 #[.slice (some ⟨w.heap.size, 0, none⟩) 2 2] (w.alloc (.cells #[.slice (A.map (·.add k)) (N - k) (c - k), .slice A k c] 22)).drew fun e w' => ∃ v, e = .returned v ∧ OwnI w' w.heap.size v (l.drop k ++ l.take k) ∧ Below w.heap.size w w' := by
      refine (concat_any _ w.heap.size BB BB _ _ (N - k) k _ _ (l.drop k) (l.take k) ((Blk.new w 22 _).drew) ((HC.out.alloc hBB _).drew) ((HF.out.alloc hBB _).drew) (by simp; omega) (by simp; omega) (by omega) (by omega)).mono ?_
      rintro e w' ⟨v, rfl, ho, hb⟩
      refine ⟨v, rfl, ?_, (below_drews ((Below.refl w.heap.size w).alloc (Nat.le_refl _) _) 1).trans (hb.mono (by simp))⟩
      exact ⟨ho.1, ho.2.imp id fun ⟨g, cap, cur, q1, q2, q3⟩ => ⟨g, cap, cur, q1, Nat.le_trans (by simp) q2, q3⟩⟩
    have HCON := Lib.hid hcon
    clear HC HF hcon
    have hcp : ¬ c = k := by omega
    have hb : ((N : Int) == 0) = false := by simpa using h0
    have i0 : (0 : Int) ≤ (k : Int) := by omega
    have i1 : (k : Int) ≤ (N : Int) := by omega
    have i2 : (k : Int) ≤ (c : Int) := by omega
    unfold aroundV at hk
    by_cases hn : n < 0
    · rw [if_pos hn] at hk
      have ht : Int.tmod (-1 - n) (N : Int) = (k : Int) := by
        rw [Int.tmod_eq_emod_of_nonneg (by omega), ← hk]
        congr 1
        omega
      have hw : IntKind.i64.wrap (-1 - n) = -1 - n := IntWalk.i64_in _ (by omega)
      clear hk hal hl h0
      go_enter Try.func22, Try.ntmps22
      go_wp2_with fail
      go_region_held3 (fun _ => True) (trivial)
        (first
          | (go_simp; go_at_call 30; refine HCON.out.mono ?_; rintro e w1 ⟨v, rfl, ho, hb1⟩))
      have HO := Lib.hid ho; have HB1 := Lib.hid hb1
      clear ho hb1
      go_wp2_with fail
      go_ret
      exact ⟨_, rfl, HO.out, HB1.out⟩
    · rw [if_neg hn] at hk
      have ht : Int.tmod n (N : Int) = (k : Int) := by
        rw [Int.tmod_eq_emod_of_nonneg (by omega), ← hk]
      clear hk hal hl h0
      go_enter Try.func22, Try.ntmps22
      go_wp2_with fail
      go_region_held3 (fun _ => True) (trivial)
        (first
          | (go_simp; go_at_call 30; refine HCON.out.mono ?_; rintro e w1 ⟨v, rfl, ho, hb1⟩))
      have HO := Lib.hid ho; have HB1 := Lib.hid hb1
      clear ho hb1
      go_wp2_with fail
      go_ret
      exact ⟨_, rfl, HO.out, HB1.out⟩
end Go.Proofs.Ytgongcbbbhdjeaa
