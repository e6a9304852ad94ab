
/-
  The library's Repeat of one number; Clone; New.
-/
import Derived.Test.YtikelkfinjcgaaaLkN
set_option linter.unusedVariables false
set_option linter.unusedSimpArgs false
namespace Go.Proofs.Ytikelkfinjcgaaa
open Go.RowKit Plain

/-- The row under way: k numbers stand, the others are 0. -/
def RepI (w wr : World) (n k : Nat) : Prop :=
  Blk wr w.heap.size 3 (List.replicate k (EnI (-1)) ++ List.replicate (n - k) (EnI 0)).toArray ∧ Below w.heap.size w wr
theorem rep_split (n k m : Nat) (hm : m ≤ n - k) (hmk : m ≤ k) (hk : k ≤ n) : splice (List.replicate k (EnI (-1)) ++ List.replicate (n - k) (EnI 0)) k (List.replicate m (EnI (-1))) = List.replicate (k + m) (EnI (-1)) ++ List.replicate (n - (k + m)) (EnI 0) := by
  unfold splice
  rw [List.take_append_of_le_length (by simp), List.take_of_length_le (by simp), List.drop_append]
  simp
  rw [← List.append_assoc, List.replicate_append_replicate, Nat.sub_sub]
set_option maxRecDepth 100000 in
set_option maxHeartbeats 4000000 in
theorem repeat_any (w : World) (n : Nat) (hn : n ≤ 8) (g : Nat) (hx : w.cell? ⟨g, 0, none⟩ = some (.int .i64 (-1))) (hg : g < w.heap.size) :
    Calls Try.prog 34 #[.slice (some ⟨g, 0, none⟩) 1 1, .int .i64 (n : Int)] w fun e w' => ∃ v, e = .returned v ∧ OwnI w' w.heap.size v (List.replicate n (-1)) ∧ Below w.heap.size w w' := by
  obtain ⟨i0, hi0, hz0, hz1, hz2⟩ := info_parts info_int
  have h1 : decide ((n : Int) < 0) = false := by simp
  have h2 : decide ((n : Int) > 9223372036854775807) = false := by simp; omega
  have hsz : (Try.prog.info? 3).map (·.size) = some 1 := by kernel_rfl
  have h3 : IntKind.u64.wrap (n : Int) = (n : Int) := by
    rw [IntKind.wrap_u64]
    omega
  have h4 : IntKind.i64.wrap (n : Int) = (n : Int) := IntWalk.i64_in _ (by omega)
  have HM := Lib.hid (mul_any w n hn)
  have HX := Lib.hid hx
  clear hx
  go_enter Try.func34, Try.ntmps34
  go_wp2_with fail
  refine HM.out.mono ?_
  rintro e w' ⟨rfl, rfl⟩
  go_wp2_with (with_reducible refine wpList_make_full _ rfl (.tmp 29) (.tmp 29) _ rfl w'.heap.size 3 i0 _ 1 Try.underlying22 hi0 hz0 hz1 _ _ _ _ n rfl rfl rfl rfl (by rw [hz2]; omega) (by unfold maxLen; omega) (Nat.le_refl _) ?c5)
  case c5 =>
  intro w1 hown hg1
  rw [made_one] at hown
  have hblk := blk_of_full hown
  have hb : Below w'.heap.size w' w1 := (Below.refl _ _).grown hg1 (Nat.le_refl _) (by simp)
  have hsrc : Reads w1 w'.heap.size 1 (some ⟨g, 0, none⟩) 1 [EnI (-1)] := ⟨rfl, fun _ => ⟨_, rfl, hg, fun j u hj => by
    match j, hj with
    | 0, hj =>
      simp at hj
      subst hj
      exact (hb.cell (p := ⟨g, 0, none⟩) hg).trans HX.out⟩⟩
  have HB := Lib.hid hblk; have HBL := Lib.hid hb; have HS := Lib.hid hsrc
  clear hown hg1 hblk hb hsrc
  go_wp2_with (with_reducible refine wpList_copy_row rfl (.tmp 31) (.tmp 32) _ _ rfl 3 Try.underlying22 hsz w'.heap.size n n _ _ rfl HB.out (by simp) _ _ 1 1 _ rfl HS.out (by simp [Value.oneCell']) ?c6)
  case c6 =>
  intro w2 hb2 hf2
  have hi : RepI w' w2 n (min 1 n) := by
    refine ⟨?_, HBL.out.trans (hf2.below HBL.out.size (fun i hi => by omega))⟩
    have e : [EnI (-1)].take n ++ List.replicate (n - min 1 n) (Value.int IntKind.i64 0) = List.replicate (min 1 n) (EnI (-1)) ++ List.replicate (n - min 1 n) (EnI 0) := by
      rcases Nat.eq_zero_or_pos n with h0 | h0
      · subst h0; rfl
      · rw [Nat.min_eq_left h0, List.take_of_length_le (by simp; omega)]
        simp
    rw [← e]
    exact hb2
  have HI := Lib.hid hi
  clear hb2 hf2 hi HB HBL HS HM
  obtain ⟨k0, hk0⟩ : ∃ k, k = min 1 n := ⟨_, rfl⟩
  rw [← hk0] at HI ⊢
  have hk01 : k0 ≤ n := by omega
  have hk02 : n = 0 ∨ 1 ≤ k0 := by omega
  clear hk0
  go_wp2_with fail
  go_loopw [8] (fun s8 wr => ∃ k : Nat, k ≤ n ∧ (n = 0 ∨ 1 ≤ k) ∧ s8 = .int .i64 (k : Int) ∧ Hid (RepI w' wr n k)) (fun s8 _ => n - (intOf s8).toNat)
  case atStart => exact ⟨k0, hk01, hk02, rfl, HI⟩
  case round =>
    clear HI
    obtain ⟨k, hk, hk1, rfl, HI⟩ := hrel
    by_cases hlt : k < n
    · have q1 : (k : Int) < (n : Int) := by omega
      have q2 : (k : Int) ≤ (n : Int) := by omega
      have q3 : (0 : Int) ≤ (k : Int) := by omega
      have q4 : ¬ n = k := by omega
      have q5 : ¬ (n : Int) = (k : Int) := by omega
      have q6 : ¬ (k : Int) = (n : Int) := by omega
      obtain ⟨m, hm⟩ : ∃ m, m = min k (n - k) := ⟨_, rfl⟩
      have hm1 : 1 ≤ m := by omega
      have hm3 : m ≤ n - k ∧ m ≤ k := by omega
      have HM3 := Lib.hid hm3
      clear hm3
      have hmm : k + m ≤ n := by omega
      have q7 : IntKind.i64.wrap ((k : Int) + (m : Int)) = ((k + m : Nat) : Int) := by rw [IntWalk.i64_in _ (by omega)]; omega
      have a0 : (List.replicate m (EnI (-1))).length = Nat.min k (n - k) := by simp [hm]
      have a1 : ∀ (j : Nat) (v : Value), (List.replicate m (EnI (-1)))[j]? = some v → wr.drew.cell? ((⟨w'.heap.size, 0, none⟩ : Addr).add j) = some v := by
        intro j v hj
        have hjm : j < m := by
          have := (List.getElem?_eq_some_iff.1 hj).1
          simpa using this
        rw [Addr.add_lit, HI.out.1.drew.cell]
        rw [List.getElem?_replicate_of_lt hjm] at hj
        injection hj with hj
        subst hj
        have hjk : j < k := by omega
        simp [List.getElem?_append, hjk]
      have a3 : k + (List.replicate m (EnI (-1))).length ≤ (List.replicate k (EnI (-1)) ++ List.replicate (n - k) (EnI 0)).length := by simp; omega
      have a4 : ∀ v ∈ List.replicate m (EnI (-1)), v.oneCell' = true := by
        intro v hv
        rw [List.mem_replicate] at hv
        rw [hv.2]
        rfl
      have A0 := Lib.hid a0; have A1 := Lib.hid a1; have A3 := Lib.hid a3; have A4 := Lib.hid a4
      clear a0 a1 a3 a4 hm
      go_wp2_with fail
      go_region_law (refine step_copy_splice rfl (.tmp 41) (.tmp 44) 22 22 rfl 3 Try.underlying22 hsz (some ⟨w'.heap.size, k, none⟩) (some ⟨w'.heap.size, 0, none⟩) (n - k) (n - k) k n (by simp [Act.eval, Act.put]) (by simp [Act.eval, Act.put]) w'.heap.size k (List.replicate k (EnI (-1)) ++ List.replicate (n - k) (EnI 0)) 3 HI.out.1.drew (List.replicate m (EnI (-1))) A0.out (fun _ => ⟨rfl, ⟨w'.heap.size, 0, none⟩, rfl, A1.out⟩) A3.out A4.out w'.heap.size w' HI.out.2.drew (Nat.le_refl _) ?_; intro w3 hb3 hl3)
      all_goals
        go_wp2_with fail
        have hi2 : RepI w' w3 n (k + m) := ⟨by rw [← rep_split n k m HM3.out.1 HM3.out.2 hk]; exact hb3.out, hl3⟩
        go_simp
        exact ⟨⟨k + m, hmm, by omega, by first | rfl | go_num, Lib.hid hi2⟩, by simp [intOf]; omega⟩
    · have q1 : ¬ (k : Int) < (n : Int) := by omega
      obtain rfl : k = n := by omega
      go_wp2_with fail
      go_ret
      refine ⟨_, rfl, ?_, HI.out.2⟩
      have hb := HI.out.1
      simp only [Nat.sub_self, List.replicate_zero, List.append_nil] at hb
      refine ⟨by simp, .inr ⟨w'.heap.size, k, _, by simp, Nat.le_refl _, hb, by simp, by unfold maxLen; omega, by simp, by simp⟩⟩
end Go.Proofs.Ytikelkfinjcgaaa
