
/-
  CsA, CsB in one text.
-/
import Derived.Test.YtmjbfobjndiecaaPrA
import Derived.Test.YtmjbfobjndiecaaPrM
import Derived.Deep.QuietTactic
import Derived.BigQuiet
import Derived.Laws.StructEq
set_option linter.unusedVariables false
set_option linter.unusedSimpArgs false
namespace Go.Proofs.Ytmjbfobjndiecaa
section
open Go.RowKit Plain

theorem take_succ_eq {α : Type} {l m : List α} {k : Nat} {x y : α} (h : l.take k = m.take k) (hx : l[k]? = some x) (hy : m[k]? = some y) : (l.take (k + 1) = m.take (k + 1)) ↔ x = y := by
  have h1 := (List.getElem?_eq_some_iff.1 hx)
  have h2 := (List.getElem?_eq_some_iff.1 hy)
  obtain ⟨h1, e1⟩ := h1
  obtain ⟨h2, e2⟩ := h2
  rw [List.take_add_one, List.take_add_one, hx, hy, h]
  simp
theorem take_ne {α : Type} {l m : List α} {k : Nat} {x y : α} (hx : l[k]? = some x) (hy : m[k]? = some y) (hne : x ≠ y) : l ≠ m := fun e => by
  rw [e, hy] at hx
  exact hne (Option.some.inj hx).symm
set_option maxHeartbeats 2000000 in
theorem refInts_any (l m : List Int) (w : World) (B1 B2 : Nat) (A1 A2 : Option Addr) (n1 n2 c1 c2 : Nat) (h1 : RI w B1 A1 n1 c1 l) (h2 : RI w B2 A2 n2 c2 m) (hn : n1 ≤ 9223372036854775807) (hn2 : n2 ≤ 9223372036854775807) :
    Calls Try.prog 53 #[.slice A1 n1 c1, .slice A2 n2 c2] w fun e w' => e = .returned (.bool (decide (l = m))) ∧ ∃ d, w' = w.drewN d := by
  by_cases hnn : n1 = n2
  · subst hnn
    have hl1 := h1.1
    have hl2 := h2.1
    have H1 := Lib.hid h1; have H2 := Lib.hid h2; have HL1 := Lib.hid hl1; have HL2 := Lib.hid hl2
    clear h1 h2 hl1 hl2
    obtain ⟨b, hb⟩ : ∃ b, b = decide (l = m) := ⟨_, rfl⟩
    rw [← hb]
    have HB := Lib.hid hb
    clear hb
    go_enter Try.func53, Try.ntmps53
    go_wp2_with fail
    go_loopw [5] (fun s wr => ∃ k d : Nat, k ≤ n1 ∧ s = .int .i64 (k : Int) ∧ wr = w.drewN d ∧ Hid (l.take k = m.take k)) (fun s _ => n1 - (intOf s).toNat)
    case atStart => exact ⟨0, 0, by omega, rfl, rfl, Lib.hid rfl⟩
    case round =>
      obtain ⟨k, d, hk, rfl, rfl, HT⟩ := hrel
      by_cases hlt : k < n1
      · obtain ⟨ad1, z1, rfl, _, hz1, hc1⟩ := H1.out.at_ hlt
        obtain ⟨ad2, z2, rfl, _, hz2, hc2⟩ := H2.out.at_ hlt
        by_cases hz : z1 = z2
        · have ht := (take_succ_eq HT.out hz1 hz2).2 hz
          have HT2 := Lib.hid ht
          subst hz
          clear hz1 hz2 ht HT
          go_wp2_with fail
          go_quiet (fail)
          go_wp2_with fail
          exact ⟨⟨k + 1, _, by omega, by go_num, rfl, HT2⟩, by simp [intOf]; omega⟩
        · have hne := take_ne hz1 hz2 hz
          have hb : b = false := by rw [HB.out]; exact decide_eq_false hne
          subst hb
          have hzb : (z1 == z2) = false := by simpa using hz
          clear hz1 hz2 hne hz HT
          go_wp2_with fail
          go_quiet (fail)
          go_wp2_with fail
          go_ret
          exact ⟨rfl, _, World.drewN_drewN _ _ _⟩
      · have hke : k = n1 := by omega
        have he : l = m := by
          have := HT.out
          rw [hke] at this
          rwa [List.take_of_length_le (by rw [HL1.out]; exact Nat.le_refl _), List.take_of_length_le (by rw [HL2.out]; exact Nat.le_refl _)] at this
        have hb : b = true := by rw [HB.out]; exact decide_eq_true he
        subst hb
        clear he HT hke
        go_wp2_with fail
        go_ret
        exact ⟨rfl, d, rfl⟩
  · have hne : l ≠ m := fun e => hnn (by rw [← h1.1, ← h2.1, e])
    rw [decide_eq_false hne]
    have hnI : ((n1 : Int) == (n2 : Int)) = false := by rw [beq_eq_false_iff_ne]; omega
    clear h1 h2 hne
    go_enter Try.func53, Try.ntmps53
    go_wp2_with fail
    go_ret
    exact ⟨rfl, 0, rfl⟩
set_option maxHeartbeats 2000000 in
theorem eqInts_any (l m : List Int) (w : World) (B1 B2 : Nat) (A1 A2 : Option Addr) (n1 n2 c1 c2 : Nat) (h1 : RI w B1 A1 n1 c1 l) (h2 : RI w B2 A2 n2 c2 m) (hn : n1 ≤ 9223372036854775807) (hn2 : n2 ≤ 9223372036854775807) :
    Calls Try.prog 57 #[.slice A1 n1 c1, .slice A2 n2 c2] w fun e w' => e = .returned (.bool (decide (l = m))) ∧ ∃ d, w' = w.drewN d := by
  by_cases hnn : n1 = n2
  · subst hnn
    have hl1 := h1.1
    have hl2 := h2.1
    have H1 := Lib.hid h1; have H2 := Lib.hid h2; have HL1 := Lib.hid hl1; have HL2 := Lib.hid hl2
    clear h1 h2 hl1 hl2
    obtain ⟨b, hb⟩ : ∃ b, b = decide (l = m) := ⟨_, rfl⟩
    rw [← hb]
    have HB := Lib.hid hb
    clear hb
    go_enter Try.func57, Try.ntmps57
    go_wp2_with fail
    go_loopw [13] (fun s wr => ∃ k d : Nat, k ≤ n1 ∧ s = .int .i64 (k : Int) ∧ wr = w.drewN d ∧ Hid (l.take k = m.take k)) (fun s _ => n1 - (intOf s).toNat)
    case atStart => exact ⟨0, 0, by omega, rfl, rfl, Lib.hid rfl⟩
    case round =>
      obtain ⟨k, d, hk, rfl, rfl, HT⟩ := hrel
      by_cases hlt : k < n1
      · obtain ⟨ad1, z1, rfl, _, hz1, hc1⟩ := H1.out.at_ hlt
        obtain ⟨ad2, z2, rfl, _, hz2, hc2⟩ := H2.out.at_ hlt
        by_cases hz : z1 = z2
        · have ht := (take_succ_eq HT.out hz1 hz2).2 hz
          have HT2 := Lib.hid ht
          subst hz
          clear hz1 hz2 ht HT
          go_wp2_with fail
          go_quiet (fail)
          go_wp2_with fail
          exact ⟨⟨k + 1, _, by omega, by go_num, rfl, HT2⟩, by simp [intOf]; omega⟩
        · have hne := take_ne hz1 hz2 hz
          have hb : b = false := by rw [HB.out]; exact decide_eq_false hne
          subst hb
          have hzb : (z1 == z2) = false := by simpa using hz
          clear hz1 hz2 hne hz HT
          go_wp2_with fail
          go_quiet (fail)
          go_wp2_with fail
          go_ret
          exact ⟨rfl, _, World.drewN_drewN _ _ _⟩
      · have hke : k = n1 := by omega
        have he : l = m := by
          have := HT.out
          rw [hke] at this
          rwa [List.take_of_length_le (by rw [HL1.out]; exact Nat.le_refl _), List.take_of_length_le (by rw [HL2.out]; exact Nat.le_refl _)] at this
        have hb : b = true := by rw [HB.out]; exact decide_eq_true he
        subst hb
        clear he HT hke
        go_wp2_with fail
        go_ret
        exact ⟨rfl, d, rfl⟩
  · have hne : l ≠ m := fun e => hnn (by rw [← h1.1, ← h2.1, e])
    rw [decide_eq_false hne]
    have hnI : ((n1 : Int) == (n2 : Int)) = false := by rw [beq_eq_false_iff_ne]; omega
    clear h1 h2 hne
    go_enter Try.func57, Try.ntmps57
    go_wp2_with fail
    go_ret
    exact ⟨rfl, 0, rfl⟩
set_option maxHeartbeats 2000000 in
theorem eqCode_any (l m : List IV) (w : World) (B1 B2 : Nat) (A1 A2 : Option Addr) (n1 n2 c1 c2 : Nat) (h1 : RC w B1 A1 n1 c1 l) (h2 : RC w B2 A2 n2 c2 m) (hn : n1 ≤ 9223372036854775807) (hn2 : n2 ≤ 9223372036854775807) :
    Calls Try.prog 85 #[.slice A1 n1 c1, .slice A2 n2 c2] w fun e w' => e = .returned (.bool (decide (l = m))) ∧ ∃ d, w' = w.drewN d := by
  by_cases hnn : n1 = n2
  · subst hnn
    have hl1 := h1.1
    have hl2 := h2.1
    have H1 := Lib.hid h1; have H2 := Lib.hid h2; have HL1 := Lib.hid hl1; have HL2 := Lib.hid hl2
    clear h1 h2 hl1 hl2
    obtain ⟨b, hb⟩ : ∃ b, b = decide (l = m) := ⟨_, rfl⟩
    rw [← hb]
    have HB := Lib.hid hb
    clear hb
    go_enter Try.func85, Try.ntmps85
    go_wp2_with fail
    go_loopw [13] (fun s wr => ∃ k d : Nat, k ≤ n1 ∧ s = .int .i64 (k : Int) ∧ wr = w.drewN d ∧ Hid (l.take k = m.take k)) (fun s _ => n1 - (intOf s).toNat)
    case atStart => exact ⟨0, 0, by omega, rfl, rfl, Lib.hid rfl⟩
    case round =>
      obtain ⟨k, d, hk, rfl, rfl, HT⟩ := hrel
      by_cases hlt : k < n1
      · obtain ⟨ad1, z1, rfl, _, hz1, hc1, hd1⟩ := H1.out.at_ hlt
        obtain ⟨ad2, z2, rfl, _, hz2, hc2, hd2⟩ := H2.out.at_ hlt
        by_cases hz : z1 = z2
        · have ht := (take_succ_eq HT.out hz1 hz2).2 hz
          have HT2 := Lib.hid ht
          subst hz
          clear hz1 hz2 ht HT
          go_wp2_with fail
          go_quiet (fail)
          go_wp2_with fail
          exact ⟨⟨k + 1, _, by omega, by go_num, rfl, HT2⟩, by simp [intOf]; omega⟩
        · have hne := take_ne hz1 hz2 hz
          have hb : b = false := by rw [HB.out]; exact decide_eq_false hne
          subst hb
          by_cases ho : z1.op = z2.op
          · have hao : ¬ z1.a = z2.a := fun e => hz (by obtain ⟨o1, a1⟩ := z1; obtain ⟨o2, a2⟩ := z2; simp at ho e; rw [ho, e])
            clear hz1 hz2 hne hz HT
            go_wp2_with fail
            go_quiet (fail)
            go_wp2_with fail
            go_ret
            exact ⟨rfl, _, World.drewN_drewN _ _ _⟩
          · clear hz1 hz2 hne hz HT
            go_wp2_with fail
            go_quiet (fail)
            go_wp2_with fail
            go_ret
            exact ⟨rfl, _, World.drewN_drewN _ _ _⟩
      · have hke : k = n1 := by omega
        have he : l = m := by
          have := HT.out
          rw [hke] at this
          rwa [List.take_of_length_le (by rw [HL1.out]; exact Nat.le_refl _), List.take_of_length_le (by rw [HL2.out]; exact Nat.le_refl _)] at this
        have hb : b = true := by rw [HB.out]; exact decide_eq_true he
        subst hb
        clear he HT hke
        go_wp2_with fail
        go_ret
        exact ⟨rfl, d, rfl⟩
  · have hne : l ≠ m := fun e => hnn (by rw [← h1.1, ← h2.1, e])
    rw [decide_eq_false hne]
    have hnI : ((n1 : Int) == (n2 : Int)) = false := by rw [beq_eq_false_iff_ne]; omega
    clear h1 h2 hne
    go_enter Try.func85, Try.ntmps85
    go_wp2_with fail
    go_ret
    exact ⟨rfl, 0, rfl⟩
end

section
open Go.RowKit Plain

set_option maxHeartbeats 2000000 in
theorem refLists_any (l m : List (List Int)) (w : World) (B1 B2 : Nat) (A1 A2 : Option Addr) (n1 n2 c1 c2 : Nat) (h1 : RL w B1 A1 n1 c1 l) (h2 : RL w B2 A2 n2 c2 m) (hn : n1 ≤ 9223372036854775807) (hn2 : n2 ≤ 9223372036854775807) (hl1 : ∀ x ∈ l, x.length ≤ 9223372036854775807) (hl2 : ∀ x ∈ m, x.length ≤ 9223372036854775807) :
    Calls Try.prog 54 #[.slice A1 n1 c1, .slice A2 n2 c2] w fun e w' => e = .returned (.bool (decide (l = m))) ∧ ∃ d, w' = w.drewN d := by
  have hlen1 : l.length = n1 := by obtain ⟨ts, _, h, _⟩ := h1; exact h
  have hlen2 : m.length = n2 := by obtain ⟨ts, _, h, _⟩ := h2; exact h
  have HL1 := Lib.hid hlen1; have HL2 := Lib.hid hlen2
  by_cases hnn : n1 = n2
  · subst hnn
    have H1 := Lib.hid h1; have H2 := Lib.hid h2; have HX1 := Lib.hid hl1; have HX2 := Lib.hid hl2
    clear h1 h2 hl1 hl2 hlen1 hlen2
    obtain ⟨b, hb⟩ : ∃ b, b = decide (l = m) := ⟨_, rfl⟩
    rw [← hb]
    have HB := Lib.hid hb
    clear hb
    go_enter Try.func54, Try.ntmps54
    go_wp2_with fail
    go_loopw [5] (fun s wr => ∃ k d : Nat, k ≤ n1 ∧ s = .int .i64 (k : Int) ∧ wr = w.drewN d ∧ Hid (l.take k = m.take k)) (fun s _ => n1 - (intOf s).toNat)
    case atStart => exact ⟨0, 0, by omega, rfl, rfl, Lib.hid rfl⟩
    case round =>
      obtain ⟨k, d, hk, rfl, hwr, HT⟩ := hrel
      have HW := Lib.hid hwr
      by_cases hlt : k < n1
      · obtain ⟨ad1, z1, rfl, _, hz1, hc1, hr1⟩ := H1.out.at_ hlt
        obtain ⟨ad2, z2, rfl, _, hz2, hc2, hr2⟩ := H2.out.at_ hlt
        have hc1' : wr.cell? (ad1.add k) = some (.slice z1.A z1.l.length z1.c) := by rw [hwr]; exact hc1
        have hc2' : wr.cell? (ad2.add k) = some (.slice z2.A z2.l.length z2.c) := by rw [hwr]; exact hc2
        have hr1 : RI wr B1 z1.A z1.l.length z1.c z1.l := by rw [hwr]; exact hr1.keep fun _ _ => rfl
        have hr2 : RI wr B2 z2.A z2.l.length z2.c z2.l := by rw [hwr]; exact hr2.keep fun _ _ => rfl
        clear hwr hc1 hc2
        have hcon := fun n => Calls.quiet_of (refInts_any z1.l z2.l (wr.drewN n) B1 B2 z1.A z2.A _ _ z1.c z2.c (hr1.keep fun _ _ => rfl) (hr2.keep fun _ _ => rfl) (HX1.out _ (List.mem_of_getElem? hz1)) (HX2.out _ (List.mem_of_getElem? hz2)))
        by_cases hz : z1.l = z2.l
        · have ht := (take_succ_eq HT.out hz1 hz2).2 hz
          have HT2 := Lib.hid ht
          rw [decide_eq_true hz] at hcon
          have HC := Lib.hid hcon
          clear hz1 hz2 ht HT hcon hr1 hr2 hz
          go_wp2_with fail
          go_quiet ((exact HC.out _))
          go_wp2_with fail
          exact ⟨⟨k + 1, d + nq, by omega, by go_num, by rw [HW.out, World.drewN_drewN], HT2⟩, by simp [intOf]; omega⟩
        · have hne := take_ne hz1 hz2 hz
          have hb : b = false := by rw [HB.out]; exact decide_eq_false hne
          subst hb
          rw [decide_eq_false hz] at hcon
          have HC := Lib.hid hcon
          clear hz1 hz2 hne hz HT hcon hr1 hr2
          go_wp2_with fail
          go_quiet ((exact HC.out _))
          go_wp2_with fail
          go_ret
          exact ⟨rfl, d + nq, by rw [HW.out, World.drewN_drewN]⟩
      · have hke : k = n1 := by omega
        have he : l = m := by
          have := HT.out
          rw [hke] at this
          rwa [List.take_of_length_le (by rw [HL1.out]; exact Nat.le_refl _), List.take_of_length_le (by rw [HL2.out]; exact Nat.le_refl _)] at this
        have hb : b = true := by rw [HB.out]; exact decide_eq_true he
        subst hb
        clear he HT hke
        go_wp2_with fail
        go_ret
        exact ⟨rfl, d, rfl⟩
  · have hne : l ≠ m := fun e => hnn (by rw [← hlen1, ← hlen2, e])
    rw [decide_eq_false hne]
    have hnI : ((n1 : Int) == (n2 : Int)) = false := by rw [beq_eq_false_iff_ne]; omega
    clear h1 h2 hne
    go_enter Try.func54, Try.ntmps54
    go_wp2_with fail
    go_ret
    exact ⟨rfl, 0, rfl⟩
set_option maxHeartbeats 2000000 in
theorem eqLists_any (l m : List (List Int)) (w : World) (B1 B2 : Nat) (A1 A2 : Option Addr) (n1 n2 c1 c2 : Nat) (h1 : RL w B1 A1 n1 c1 l) (h2 : RL w B2 A2 n2 c2 m) (hn : n1 ≤ 9223372036854775807) (hn2 : n2 ≤ 9223372036854775807) (hl1 : ∀ x ∈ l, x.length ≤ 9223372036854775807) (hl2 : ∀ x ∈ m, x.length ≤ 9223372036854775807) :
    Calls Try.prog 58 #[.slice A1 n1 c1, .slice A2 n2 c2, .func (.func 57) #[] #[]] w fun e w' => e = .returned (.bool (decide (l = m))) ∧ ∃ d, w' = w.drewN d := by
  have hlen1 : l.length = n1 := by obtain ⟨ts, _, h, _⟩ := h1; exact h
  have hlen2 : m.length = n2 := by obtain ⟨ts, _, h, _⟩ := h2; exact h
  have HL1 := Lib.hid hlen1; have HL2 := Lib.hid hlen2
  by_cases hnn : n1 = n2
  · subst hnn
    have H1 := Lib.hid h1; have H2 := Lib.hid h2; have HX1 := Lib.hid hl1; have HX2 := Lib.hid hl2
    clear h1 h2 hl1 hl2 hlen1 hlen2
    obtain ⟨b, hb⟩ : ∃ b, b = decide (l = m) := ⟨_, rfl⟩
    rw [← hb]
    have HB := Lib.hid hb
    clear hb
    go_enter Try.func58, Try.ntmps58
    go_wp2_with fail
    go_loopw [17] (fun s wr => ∃ k d : Nat, k ≤ n1 ∧ s = .int .i64 (k : Int) ∧ wr = w.drewN d ∧ Hid (l.take k = m.take k)) (fun s _ => n1 - (intOf s).toNat)
    case atStart => exact ⟨0, 0, by omega, rfl, rfl, Lib.hid rfl⟩
    case round =>
      obtain ⟨k, d, hk, rfl, rfl, HT⟩ := hrel
      by_cases hlt : k < n1
      · obtain ⟨ad1, z1, rfl, _, hz1, hc1, hr1⟩ := H1.out.at_ hlt
        obtain ⟨ad2, z2, rfl, _, hz2, hc2, hr2⟩ := H2.out.at_ hlt
        have hcon := eqInts_any z1.l z2.l (w.drewN d) B1 B2 z1.A z2.A _ _ z1.c z2.c (hr1.keep fun _ _ => rfl) (hr2.keep fun _ _ => rfl) (HX1.out _ (List.mem_of_getElem? hz1)) (HX2.out _ (List.mem_of_getElem? hz2))
        by_cases hz : z1.l = z2.l
        · have ht := (take_succ_eq HT.out hz1 hz2).2 hz
          have HT2 := Lib.hid ht
          rw [decide_eq_true hz] at hcon
          have HC := Lib.hid hcon
          clear hz1 hz2 ht HT hcon hr1 hr2 hz
          go_wp2_with fail
          refine HC.out.mono ?_
          rintro e w3 ⟨rfl, d3, rfl⟩
          go_wp2_with fail
          exact ⟨⟨k + 1, d + d3, by omega, by go_num, rfl, HT2⟩, by simp [intOf]; omega⟩
        · have hne := take_ne hz1 hz2 hz
          have hb : b = false := by rw [HB.out]; exact decide_eq_false hne
          subst hb
          rw [decide_eq_false hz] at hcon
          have HC := Lib.hid hcon
          clear hz1 hz2 hne hz HT hcon hr1 hr2
          go_wp2_with fail
          refine HC.out.mono ?_
          rintro e w3 ⟨rfl, d3, rfl⟩
          go_wp2_with fail
          go_ret
          exact ⟨rfl, d + d3, rfl⟩
      · have hke : k = n1 := by omega
        have he : l = m := by
          have := HT.out
          rw [hke] at this
          rwa [List.take_of_length_le (by rw [HL1.out]; exact Nat.le_refl _), List.take_of_length_le (by rw [HL2.out]; exact Nat.le_refl _)] at this
        have hb : b = true := by rw [HB.out]; exact decide_eq_true he
        subst hb
        clear he HT hke
        go_wp2_with fail
        go_ret
        exact ⟨rfl, d, rfl⟩
  · have hne : l ≠ m := fun e => hnn (by rw [← hlen1, ← hlen2, e])
    rw [decide_eq_false hne]
    have hnI : ((n1 : Int) == (n2 : Int)) = false := by rw [beq_eq_false_iff_ne]; omega
    clear h1 h2 hne
    go_enter Try.func58, Try.ntmps58
    go_wp2_with fail
    go_ret
    exact ⟨rfl, 0, rfl⟩
end
end Go.Proofs.Ytmjbfobjndiecaa
