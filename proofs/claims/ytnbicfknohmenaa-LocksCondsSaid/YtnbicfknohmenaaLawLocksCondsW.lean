
/-
  The walk of LocksConds.
-/
import Derived.Test.YtnbicfknohmenaaRows
import Derived.WalkKit
import Derived.ProofKit
import Derived.OpenShut
import Derived.ShutString
import Derived.ChangeOld
import Derived.Below
import Derived.Test.YtnbicfknohmenaaLkG
import Derived.Test.YtnbicfknohmenaaLkBr
namespace Go.Proofs.Ytnbicfknohmenaa.locksConds
open Go.ChangeShapes Go.WideShapes Go.ChangeAt Go.RowKit Go.Proofs.Ytnbicfknohmenaa Go.Proofs.Ytnbicfknohmenaa.Plain
open Go.ChangeMaps (open_string shut_string)
set_option linter.unusedVariables false


set_option maxRecDepth 100000 in
set_option maxHeartbeats 40000000 in
theorem walk (a0 : Int) (a1 : Int) (w : World) (w0 : (Lit.int .i64 a0).wf = true) (w1 : (Lit.int .i64 a1).wf = true) :
    Calls Try.prog 7 #[.int .i64 a0, .int .i64 a1] w fun e w' => e = .returned (.bool true) ∧ Below w.heap.size w w' := by
  obtain ⟨i0, hi0, hz0, hz1, hz2⟩ := info_parts info_int
  have ba := wf_i64 w0
  have bb := wf_i64 w1
  have har := fun W => around_any a0 13 W ba.1 ba.2 (by omega) (by omega)
  have hal := aroundV_lt (n := a0) (m := 13) (by omega)
  generalize aroundV a0 13 = ra at *
  obtain ⟨n, rfl⟩ := Int.eq_ofNat_of_zero_le hal.1
  have hn : n ≤ 12 := by omega
  have har2 := fun W => around_any a1 ((n : Int) + 2) W bb.1 bb.2 (by omega) (by omega)
  have hal2 := aroundV_lt (n := a1) (m := (n : Int) + 2) (by omega)
  generalize aroundV a1 ((n : Int) + 2) = rb at *
  obtain ⟨k, rfl⟩ := Int.eq_ofNat_of_zero_le hal2.1
  have hk : k ≤ n + 1 := by omega
  have hnew := new_lk w (fun _ => True) none 0 [] (RN.nil _ _ _ _) 0 rfl (by omega) (fun _ => rfl) 1 1 (by omega) (by omega)
  rw [show newV 1 1 [] = st0 0 from rfl] at hnew
  have hwr : IntKind.i64.wrap ((n : Int) + 2) = (n : Int) + 2 := IntWalk.i64_in _ (by omega)
  have HAR := Lib.hid har; have HAR2 := Lib.hid har2; have HNEW := Lib.hid hnew; have HLV := Lib.hid lives_lk
  clear har hal har2 hal2 hnew ba bb w0 w1
  go_enter Try.func7, Try.ntmps7
  go_wp2_with fail
  refine (HAR.out _).mono ?_
  rintro e w' ⟨rfl, rfl⟩
  go_wp2_with fail
  refine (HAR2.out _).mono ?_
  rintro e w' ⟨rfl, rfl⟩
  go_wp2_with fail
  refine HNEW.out.mono ?_
  rintro e w1 ⟨z, rfl, hb, hM, hbel⟩
  obtain ⟨w2, hw2⟩ : ∃ W, W = w1.alloc (.cells (mkC z 1 1 0) 27) := ⟨_, rfl⟩
  rw [← hw2] at hM hbel
  obtain ⟨g, hg⟩ : ∃ g, g = w1.heap.size := ⟨_, rfl⟩
  rw [← hg] at hM
  obtain ⟨b0, b1, b2, b3, b4⟩ := hM.cells
  have HI := Lib.hid (⟨hM, hbel⟩ : LkS w w2 (mkH z g 1 1 0) (st0 0)); have HW := Lib.hid hw2; have HG := Lib.hid hg
  clear hM hbel hb b1 b4 HNEW hw2 hg HAR HAR2 hwr
  go_upto_region 4 with fail
  rw [← HW.out, ← HG.out]
  clear HW HG
  go_wp2_with fail
  clear b0 b2 b3
  go_loopw [7, 8, 9] (fun s7 _ _ wr => ∃ t : Nat, t ≤ n ∧ s7 = .int .i64 (t : Int) ∧ Hid (LkS w wr (mkH z g 1 1 0) (st0 t))) (fun s7 _ _ _ => n - (intOf s7).toNat)
  case atStart => exact ⟨0, by omega, rfl, HI⟩
  case round =>
    clear HI
    obtain ⟨t, ht, rfl, HI⟩ := hrel
    by_cases hlt : t < n
    · have hk1 := lock_any HI.out.m (st0_ok t (by omega)) (by omega) 0 (by simp [st0]) (t : Int) (by omega)
      rw [st0_lock, show ((0 : Nat) : Int) = 0 from rfl] at hk1
      have hk2 : ∀ W, LkS w W (mkH z g 1 1 0) (st0l t) → Calls Try.prog 20 #[.pointer (some ⟨g, 0, none⟩), .int .i64 0, .int .i64 0, .int .i64 (t : Int)] W fun e w' => e = .returned (.tuple #[.int .i64 (-1), .int .i64 0]) ∧ LkS w w' (mkH z g 1 1 0) (st0 (t + 1)) := by
        intro W hW
        have := wait_any hW.m (st0l_ok t (by omega)) (by omega) 0 0 (by simp [st0l]) (by simp [st0l]) (t : Int) (by omega) (by omega) (by simp [st0l, tot, seqV_len]; omega)
        rw [st0_wait, show ((0 : Nat) : Int) = 0 from rfl] at this
        refine this.mono ?_
        rintro e w' ⟨rfl, hT⟩
        exact ⟨rfl, hW.of hT⟩
      have q1 : (t : Int) < (n : Int) := by omega
      have H1 := Lib.hid hk1; have H2 := Lib.hid hk2
      clear hk1 hk2
      go_wp2_with fail
      refine H1.out.mono ?_
      rintro e w3 ⟨rfl, hT⟩
      have HI2 := Lib.hid (HI.out.of hT)
      clear hT H1 HI
      go_wp2_with fail
      refine (H2.out _ HI2.out).mono ?_
      rintro e w4 ⟨rfl, hI⟩
      have HI3 := Lib.hid hI
      clear hI H2 HI2
      go_wp2_with fail
      exact ⟨⟨t + 1, by omega, by go_num, HI3⟩, by simp [intOf]; omega⟩
    · obtain rfl : t = n := by omega
      have hc2 : C2 w wr wr.heap.size (mkH z g 1 1 0) (st3 t 0) (.slice none 0 0) [] := ⟨RowX.start HI.out.m, HI.out.b, HI.out.b.size⟩
      obtain ⟨base, hbase⟩ : ∃ b, b = wr.heap.size := ⟨_, rfl⟩
      rw [← hbase] at hc2
      have HC := Lib.hid hc2
      clear hc2 hbase HI
      go_wp2_with fail
      go_loopw [10, 11, 12, 13] (fun s10 s11 _ _ wr => ∃ (i j : Nat) (A : Option Addr) (cap : Nat), i ≤ k ∧ s11 = .int .i64 (i : Int) ∧ j ≤ t ∧ j ≤ i ∧ (i ≤ t → i ≤ j) ∧ (t ≤ i → t ≤ j) ∧ s10 = .slice A j cap ∧ Hid (C2 w wr base (mkH z g 1 1 0) (st3 t j) (.slice A j cap) (seqV 0 j))) (fun _ s11 _ _ _ => k - (intOf s11).toNat)
      case atStart => exact ⟨0, 0, none, 0, by omega, rfl, by omega, by omega, fun _ => by omega, fun h => h, rfl, HC⟩
      case round =>
        clear HC
        obtain ⟨i, j, A, cap, hik, rfl, hj1, hj2, hj3, hj4, rfl, HC⟩ := hrel
        by_cases hik2 : i < k
        · have q1 : (i : Int) < (k : Int) := by omega
          have hsig := signal_any HC.out.r.m (st3_ok t j (by omega) hj1) (by omega) 0 0 (by rw [(st3_len t j).2.2.1]; omega) (by rw [(st3_len t j).1]; omega)
          rw [show ((0 : Nat) : Int) = 0 from rfl] at hsig
          by_cases hit : i < t
          · obtain rfl : i = j := by omega
            rw [st3_step t i hit] at hsig
            have q4 : (0 : Int) < (t : Int) := by omega
            by_cases h0 : i = 0
            · subst h0
              rw [show decide (0 = 0) = true from rfl, show ((0 : Nat) : Int) = 0 from rfl] at hsig
              have HS := Lib.hid hsig
              have hown : ∀ W, LkT wr W w.heap.size { mkH z g 1 1 0 with X := fun k => (mkH z g 1 1 0).X k ∨ (Value.slice A 0 cap).ownBlock = some k } (st3 t (0 + 1)) → C2 w W base (mkH z g 1 1 0) (st3 t (0 + 1)) (.slice A 0 cap) (seqV 0 0) := fun W hT => HC.out.turn hT
              have HOW := Lib.hid hown
              clear hsig hj3 hj4 hown HC
              go_wp2_with fail
              refine HS.out.mono ?_
              rintro e w3 ⟨rfl, hT⟩
              have HC2 := Lib.hid (HOW.out _ hT)
              clear hT HS HOW
              have hacc : w3.ownsRow base 3 1 (.slice A 0 cap) 0 ((seqV 0 0).map EnI) := by
                have := HC2.out.r.o
                unfold OwnI at this
                rwa [seqV_len] at this
              have HACC := Lib.hid hacc
              clear hacc
              go_wp2_with (at_builtin; go_must (refine wpList_append_any _ rfl (.tmp 88) (.tmp 90) _ rfl base 3 i0 _ 1 8 Try.underlying22 hi0 hz0 hz1 hz2 rfl (by decide) (.slice A 0 cap) 0 ((seqV 0 0).map EnI) rfl (own_later HACC.out ((Below.refl _ _).alloc (Nat.le_refl _) _)) _ _ 1 1 [.int .i64 (0 : Int)] rfl (reads_one_int _ (0 : Int) _) (by simp [Value.oneCell']) ?f1 ?f2 ?f3 ?f4))
              case f1 => unfold maxLen; omega
              case f2 => omega
              case f3 => have := HC2.out.r.bs; simp; omega
              case f4 =>
              intro v4 w4 hown hgr hat
              have hown2 : OwnI w4 base v4 (seqV 0 (0 + 1)) := by
                have := OwnI.snoc (l := seqV 0 0) (x := (0 : Int)) (by rw [seqV_len]; exact hown)
                rw [show (0 : Int) = ((0 + 0 : Nat) : Int) by rfl, seqV_snoc] at this
                exact this
              have hc4 := HC2.out.grow hown2 hgr (by simpa using hat)
              obtain ⟨A', cap', rfl, _, _⟩ := hown2.slice
              rw [seqV_len] at hc4 ⊢
              have HC4 := Lib.hid hc4
              clear hown hgr hat hown2 hc4 HC2 HACC
              go_wp2_with fail
              exact ⟨⟨0 + 1, 0 + 1, A', cap', by omega, by go_num, by omega, by omega, fun _ => by omega, fun _ => by omega, rfl, HC4⟩, by simp [intOf]; omega⟩
            · have q2 : (i : Int) < (t : Int) := by omega
              have q3 : decide ((i : Int) ≥ 0) = true := by simp
              have q7 : (0 : Int) < (i : Int) := by omega
              rw [decide_eq_false h0] at hsig
              clear h0
              have HS := Lib.hid hsig
              have hown : ∀ W, LkT wr W w.heap.size { mkH z g 1 1 0 with X := fun k => (mkH z g 1 1 0).X k ∨ (Value.slice A i cap).ownBlock = some k } (st3 t (i + 1)) → C2 w W base (mkH z g 1 1 0) (st3 t (i + 1)) (.slice A i cap) (seqV 0 i) := fun W hT => HC.out.turn hT
              have HOW := Lib.hid hown
              clear hsig hj3 hj4 hown HC
              go_wp2_with fail
              refine HS.out.mono ?_
              rintro e w3 ⟨rfl, hT⟩
              have HC2 := Lib.hid (HOW.out _ hT)
              clear hT HS HOW
              have hacc : w3.ownsRow base 3 1 (.slice A i cap) i ((seqV 0 i).map EnI) := by
                have := HC2.out.r.o
                unfold OwnI at this
                rwa [seqV_len] at this
              have HACC := Lib.hid hacc
              clear hacc
              go_wp2_with (at_builtin; go_must (refine wpList_append_any _ rfl (.tmp 88) (.tmp 90) _ rfl base 3 i0 _ 1 8 Try.underlying22 hi0 hz0 hz1 hz2 rfl (by decide) (.slice A i cap) i ((seqV 0 i).map EnI) rfl (own_later HACC.out ((Below.refl _ _).alloc (Nat.le_refl _) _)) _ _ 1 1 [.int .i64 (i : Int)] rfl (reads_one_int _ (i : Int) _) (by simp [Value.oneCell']) ?f1 ?f2 ?f3 ?f4))
              case f1 => unfold maxLen; omega
              case f2 => omega
              case f3 => have := HC2.out.r.bs; simp; omega
              case f4 =>
              intro v4 w4 hown hgr hat
              have hown2 : OwnI w4 base v4 (seqV 0 (i + 1)) := by
                have := OwnI.snoc (l := seqV 0 i) (x := (i : Int)) (by rw [seqV_len]; exact hown)
                rw [show (i : Int) = ((0 + i : Nat) : Int) by omega, seqV_snoc] at this
                exact this
              have hc4 := HC2.out.grow hown2 hgr (by simpa using hat)
              obtain ⟨A', cap', rfl, _, _⟩ := hown2.slice
              rw [seqV_len] at hc4 ⊢
              have HC4 := Lib.hid hc4
              clear hown hgr hat hown2 hc4 HC2 HACC
              go_wp2_with fail
              exact ⟨⟨i + 1, i + 1, A', cap', by omega, by go_num, by omega, by omega, fun _ => by omega, fun _ => by omega, rfl, HC4⟩, by simp [intOf]; omega⟩
          · obtain rfl : j = t := by omega
            rw [st3_end] at hsig
            have q2 : ¬ (i : Int) < (j : Int) := by omega
            have q4 : i = 0 → ¬ (j : Int) > 0 := by omega
            have HS := Lib.hid hsig
            clear hsig hj3 hj4
            have hown : ∀ W, LkT wr W w.heap.size { mkH z g 1 1 0 with X := fun k => (mkH z g 1 1 0).X k ∨ (Value.slice A j cap).ownBlock = some k } (st3 j j) → C2 w W base (mkH z g 1 1 0) (st3 j j) (.slice A j cap) (seqV 0 j) := fun W hT => HC.out.turn hT
            have HOW := Lib.hid hown
            clear hown HC
            by_cases hi0z : i = 0
            · have q5 : ((i : Int) == 0) = true := by rw [beq_iff_eq]; omega
              have q6 : ¬ (0 : Int) < (j : Int) := by have := q4 hi0z; omega
              clear q4 hi0z
              go_wp2_with fail
              refine HS.out.mono ?_
              rintro e w3 ⟨rfl, hT⟩
              have HC2 := Lib.hid (HOW.out _ hT)
              clear hT HS HOW
              go_wp2_with fail
              exact ⟨⟨i + 1, j, A, cap, by omega, by go_num, by omega, by omega, fun _ => by omega, fun _ => by omega, rfl, HC2⟩, by simp [intOf]; omega⟩
            · have q5 : ((i : Int) == 0) = false := by rw [beq_eq_false_iff_ne]; omega
              clear q4 hi0z
              go_wp2_with fail
              refine HS.out.mono ?_
              rintro e w3 ⟨rfl, hT⟩
              have HC2 := Lib.hid (HOW.out _ hT)
              clear hT HS HOW
              go_wp2_with fail
              exact ⟨⟨i + 1, j, A, cap, by omega, by go_num, by omega, by omega, fun _ => by omega, fun _ => by omega, rfl, HC2⟩, by simp [intOf]; omega⟩
        · obtain rfl : i = k := by omega
          have hbr := broadcast_any HC.out.r.m (st3_ok t j (by omega) hj1) (by omega) 0 0 (by rw [(st3_len t j).2.2.1]; omega) (by rw [(st3_len t j).1]; omega)
          obtain ⟨hbv, hbg⟩ := st3_broad t j hj1
          rw [hbv, hbg, show ((0 : Nat) : Int) = 0 from rfl] at hbr
          obtain ⟨gt, hgt⟩ : ∃ gt : Int, gt = if j = 0 ∧ 0 < t then 0 else -1 := ⟨_, rfl⟩
          simp only [← hgt] at hbr
          have hcs : (i = 0 ∧ 0 < t ∧ gt = 0) ∨ (i = 0 ∧ t = 0 ∧ gt = -1) ∨ (0 < i ∧ gt = -1) := by
            rw [hgt]
            by_cases h1 : j = 0 ∧ 0 < t
            · rw [if_pos h1]
              exact .inl ⟨by omega, h1.2, rfl⟩
            · rw [if_neg h1]
              rcases Nat.eq_zero_or_pos i with h2 | h2
              · exact .inr (.inl ⟨h2, by omega, rfl⟩)
              · exact .inr (.inr ⟨h2, rfl⟩)
          have HBR := Lib.hid hbr; have HCS := Lib.hid hcs
          have hacc : wr.ownsRow base 3 1 (.slice A j cap) j ((seqV 0 j).map EnI) := by
            have := HC.out.r.o
            unfold OwnI at this
            rwa [seqV_len] at this
          have hmk : ∀ (W : World) (v2 : Value), RowX W w.heap.size wr.heap.size { mkH z g 1 1 0 with X := fun k => (mkH z g 1 1 0).X k ∨ (Value.slice A j cap).ownBlock = some k } (st2w t 0) v2 (seqV j (t - j)) → Fr (mkH z g 1 1 0).W wr W →
              C2 w W base (mkH z g 1 1 0) (st2w t 0) (.slice A j cap) (seqV 0 j) ∧ W.ownsRow base 3 1 (.slice A j cap) j ((seqV 0 j).map EnI) ∧ ∃ A2 cap2, v2 = .slice A2 (t - j) cap2 ∧ Reads W W.heap.size 1 A2 (t - j) ((seqV j (t - j)).map EnI) := by
            intro W v2 hR hF
            have h1 := HC.out.broad hR hF
            have h2 := h1.r.o
            unfold OwnI at h2
            rw [seqV_len] at h2
            obtain ⟨A2, cap2, h3, _, h4⟩ := hR.o.slice
            rw [seqV_len] at h3 h4
            exact ⟨h1, h2, A2, cap2, h3, h4⟩
          have HMK := Lib.hid hmk
          clear hbr hgt hcs hacc hmk hbv hbg HC hj2 hj3 hj4
          have hj12 : j ≤ 12 := by omega
          have hsum : j + (t - j) = t := by omega
          have HSUM := Lib.hid hsum
          obtain ⟨m, hm⟩ : ∃ m, m = t - j := ⟨_, rfl⟩
          rw [← hm] at HMK HBR HSUM
          have hm12 : m ≤ 12 := by omega
          have HJ := Lib.hid (seqV_app j t hj1)
          rw [← hm] at HJ
          clear hsum hm
          go_wp2_with fail
          refine HBR.out.mono ?_
          rintro e w3 ⟨v2, rfl, hR, hF⟩
          obtain ⟨hc2, ho2, A2, cap2, rfl, hr2⟩ := HMK.out _ _ hR hF
          have HC2 := Lib.hid hc2; have HO2 := Lib.hid ho2; have HR2 := Lib.hid hr2
          clear hR hF hc2 ho2 hr2 HMK HBR
          go_wp2_with (at_builtin; go_must (refine wpList_append_any _ rfl (.tmp 96) (.tmp 97) _ rfl base 3 i0 _ 1 8 Try.underlying22 hi0 hz0 hz1 hz2 rfl (by decide) (.slice A j cap) j ((seqV 0 j).map EnI) rfl HO2.out _ A2 m cap2 ((seqV j m).map EnI) rfl HR2.out (all_int9 _) ?f1 ?f2 ?f3 ?f4))
          case f1 => unfold maxLen; omega
          case f2 => omega
          case f3 => exact HC2.out.r.bs
          case f4 =>
          intro v4 w4 hown hgr hat
          have hown2 : OwnI w4 base v4 (seqV 0 t) := by
            rw [← List.map_append, HJ.out, HSUM.out] at hown
            unfold OwnI
            rwa [seqV_len]
          have hc4 := HC2.out.grow0 hown2 hgr hat
          obtain ⟨A', cap', rfl, _, _⟩ := hown2.slice
          rw [seqV_len] at hc4 ⊢
          have HC4 := Lib.hid hc4
          clear hown hgr hat hown2 hc4 HC2 HO2 HR2 HJ hm12 hj12
          have hcs := HCS.out
          clear HCS
          rcases hcs with ⟨h1, h2, rfl⟩ | ⟨h1, h2, rfl⟩ | ⟨h1, rfl⟩
          · subst h1
            rw [show ((0 : Nat) : Int) = 0 from rfl]
            have q6 : (0 : Int) < (t : Int) := by omega
            go_wp2_with fail
            try clear q6
            try clear q5
            go_loopw [16, 17, 18, 19] (fun s16 _ _ _ wr => ∃ q : Nat, q ≤ t ∧ s16 = .int .i64 (q : Int) ∧ Hid (C2 w wr base (mkH z g 1 1 0) (st2w t q) (.slice A' t cap') (seqV 0 t))) (fun s16 _ _ _ _ => t - (intOf s16).toNat)
            case atStart => exact ⟨0, by omega, rfl, HC4⟩
            case round =>
              clear HC4
              obtain ⟨q, hq, rfl, HC⟩ := hrel
              by_cases hqt : q < t
              · have hul := unlock_any HC.out.r.m (st2w_ok t q (by omega) (by omega)) (by omega) 0 (by rw [(st2w_len t q).1]; omega) (q : Int) (by omega)
                rw [st2w_step t q hqt, show ((0 : Nat) : Int) = 0 from rfl] at hul
                obtain ⟨y0, y1, y2, y3, y4, y5, y6, y7, y8, y9⟩ := (LkM.all10 HC.out.r.drop)
                obtain ⟨b5, cap5, e1, e2, e3, e4, e5, e6⟩ := OwnI.at_ HC.out.r.m.own (i := 0) (by rw [(st2w_len t q).1]; omega)
                rw [st2w_own t q hqt] at e5
                injection e1 with e1 e1a e1b
                rw [e1] at y2
                clear e1a e1b
                obtain ⟨b6, cap6, r1, r2, r3, r4, r5, r6⟩ := OwnI.at_ HC.out.r.o (i := q) (by rw [seqV_len]; exact hqt)
                rw [show gn (seqV 0 t) q = (q : Int) by unfold gn; rw [seqV_at hqt]; simp] at r5
                injection r1 with r1 r1a r1b
                clear r1a r1b
                subst r1
                have p1 : (q : Int) < (t : Int) := by omega
                have p2 : IntKind.i64.wrap ((q : Int) + 1) = (q : Int) + 1 := IntWalk.i64_in _ (by omega)
                have p3 : (0 : Int) ≤ (q : Int) := by omega
                clear y0 y1 y3 y4 y5 y6 y7 y8 y9 e1 e2 e3 e4 e6 r2 r3 r4 r6
                by_cases h0 : q + 1 = t
                · have h3 : ((q : Int) + 1 == (t : Int)) = true := by rw [beq_iff_eq]; omega
                  rw [if_pos h0] at hul
                  have HU := Lib.hid hul
                  clear hul h0
                  go_wp2_with fail
                  refine HU.out.mono ?_
                  rintro e w5 ⟨rfl, hT⟩
                  have HC5 := Lib.hid (HC.out.turn hT)
                  clear hT HU HC e5 r5 y2
                  go_wp2_with fail
                  exact ⟨⟨q + 1, by omega, by go_num, HC5⟩, by simp [intOf]; omega⟩
                · have h3 : ¬ (q : Int) + 1 = (t : Int) := by omega
                  rw [if_neg h0] at hul
                  have HU := Lib.hid hul
                  clear hul h0
                  go_wp2_with fail
                  refine HU.out.mono ?_
                  rintro e w5 ⟨rfl, hT⟩
                  have HC5 := Lib.hid (HC.out.turn hT)
                  clear hT HU HC e5 r5 y2
                  go_wp2_with fail
                  exact ⟨⟨q + 1, by omega, by go_num, HC5⟩, by simp [intOf]; omega⟩
              · obtain rfl : q = t := by omega
                have hf := free_any wr _ _ _ HC.out.r.drop (by rw [(st2w_len q q).1]; omega) (by rw [(st2w_len q q).2.1]; omega) (by rw [(st2w_len q q).2.2.1]; omega) (by rw [(st2w_len q q).2.2.2]; omega)
                rw [st2w_free] at hf
                obtain ⟨y0, y1, y2, y3, y4, y5, y6, y7, y8, y9⟩ := (LkM.all10 HC.out.r.drop)
                have HF := Lib.hid hf
                clear hf
                go_wp2_with fail
                refine HF.out.mono ?_
                rintro e w5 ⟨rfl, hb5⟩
                have HC5 := Lib.hid (HC.out.later hb5)
                clear hb5 HC HF y0 y1 y2 y3 y4 y5 y6 y7 y8 y9
                go_wp2_with fail
                refine (HLV.out _).mono ?_
                rintro e w6 ⟨rfl, hb6⟩
                have HB := Lib.hid (HC5.out.later hb6).b
                clear hb6
                go_wp2_with fail
                go_ret
                exact ⟨rfl, HB.out⟩
          · have q5 : ((i : Int) == 0) = true := by rw [beq_iff_eq]; omega
            have q6 : ¬ (0 : Int) < (t : Int) := by omega
            have HT0 := Lib.hid h2
            clear h1 h2
            go_wp2_with fail
            try clear q6
            try clear q5
            go_loopw [16, 17, 18, 19] (fun s16 _ _ _ wr => ∃ q : Nat, q ≤ t ∧ s16 = .int .i64 (q : Int) ∧ Hid (C2 w wr base (mkH z g 1 1 0) (st2w t q) (.slice A' t cap') (seqV 0 t))) (fun s16 _ _ _ _ => t - (intOf s16).toNat)
            case atStart => exact ⟨0, by omega, rfl, HC4⟩
            case round =>
              clear HC4
              obtain ⟨q, hq, rfl, HC⟩ := hrel
              by_cases hqt : q < t
              · exact absurd hqt (by have := HT0.out; omega)
              · obtain rfl : q = t := by omega
                have hf := free_any wr _ _ _ HC.out.r.drop (by rw [(st2w_len q q).1]; omega) (by rw [(st2w_len q q).2.1]; omega) (by rw [(st2w_len q q).2.2.1]; omega) (by rw [(st2w_len q q).2.2.2]; omega)
                rw [st2w_free] at hf
                obtain ⟨y0, y1, y2, y3, y4, y5, y6, y7, y8, y9⟩ := (LkM.all10 HC.out.r.drop)
                have HF := Lib.hid hf
                clear hf
                go_wp2_with fail
                refine HF.out.mono ?_
                rintro e w5 ⟨rfl, hb5⟩
                have HC5 := Lib.hid (HC.out.later hb5)
                clear hb5 HC HF y0 y1 y2 y3 y4 y5 y6 y7 y8 y9
                go_wp2_with fail
                refine (HLV.out _).mono ?_
                rintro e w6 ⟨rfl, hb6⟩
                have HB := Lib.hid (HC5.out.later hb6).b
                clear hb6
                go_wp2_with fail
                go_ret
                exact ⟨rfl, HB.out⟩
          · have q5 : ((i : Int) == 0) = false := by rw [beq_eq_false_iff_ne]; omega
            clear h1
            go_wp2_with fail
            try clear q6
            try clear q5
            go_loopw [16, 17, 18, 19] (fun s16 _ _ _ wr => ∃ q : Nat, q ≤ t ∧ s16 = .int .i64 (q : Int) ∧ Hid (C2 w wr base (mkH z g 1 1 0) (st2w t q) (.slice A' t cap') (seqV 0 t))) (fun s16 _ _ _ _ => t - (intOf s16).toNat)
            case atStart => exact ⟨0, by omega, rfl, HC4⟩
            case round =>
              clear HC4
              obtain ⟨q, hq, rfl, HC⟩ := hrel
              by_cases hqt : q < t
              · have hul := unlock_any HC.out.r.m (st2w_ok t q (by omega) (by omega)) (by omega) 0 (by rw [(st2w_len t q).1]; omega) (q : Int) (by omega)
                rw [st2w_step t q hqt, show ((0 : Nat) : Int) = 0 from rfl] at hul
                obtain ⟨y0, y1, y2, y3, y4, y5, y6, y7, y8, y9⟩ := (LkM.all10 HC.out.r.drop)
                obtain ⟨b5, cap5, e1, e2, e3, e4, e5, e6⟩ := OwnI.at_ HC.out.r.m.own (i := 0) (by rw [(st2w_len t q).1]; omega)
                rw [st2w_own t q hqt] at e5
                injection e1 with e1 e1a e1b
                rw [e1] at y2
                clear e1a e1b
                obtain ⟨b6, cap6, r1, r2, r3, r4, r5, r6⟩ := OwnI.at_ HC.out.r.o (i := q) (by rw [seqV_len]; exact hqt)
                rw [show gn (seqV 0 t) q = (q : Int) by unfold gn; rw [seqV_at hqt]; simp] at r5
                injection r1 with r1 r1a r1b
                clear r1a r1b
                subst r1
                have p1 : (q : Int) < (t : Int) := by omega
                have p2 : IntKind.i64.wrap ((q : Int) + 1) = (q : Int) + 1 := IntWalk.i64_in _ (by omega)
                have p3 : (0 : Int) ≤ (q : Int) := by omega
                clear y0 y1 y3 y4 y5 y6 y7 y8 y9 e1 e2 e3 e4 e6 r2 r3 r4 r6
                by_cases h0 : q + 1 = t
                · have h3 : ((q : Int) + 1 == (t : Int)) = true := by rw [beq_iff_eq]; omega
                  rw [if_pos h0] at hul
                  have HU := Lib.hid hul
                  clear hul h0
                  go_wp2_with fail
                  refine HU.out.mono ?_
                  rintro e w5 ⟨rfl, hT⟩
                  have HC5 := Lib.hid (HC.out.turn hT)
                  clear hT HU HC e5 r5 y2
                  go_wp2_with fail
                  exact ⟨⟨q + 1, by omega, by go_num, HC5⟩, by simp [intOf]; omega⟩
                · have h3 : ¬ (q : Int) + 1 = (t : Int) := by omega
                  rw [if_neg h0] at hul
                  have HU := Lib.hid hul
                  clear hul h0
                  go_wp2_with fail
                  refine HU.out.mono ?_
                  rintro e w5 ⟨rfl, hT⟩
                  have HC5 := Lib.hid (HC.out.turn hT)
                  clear hT HU HC e5 r5 y2
                  go_wp2_with fail
                  exact ⟨⟨q + 1, by omega, by go_num, HC5⟩, by simp [intOf]; omega⟩
              · obtain rfl : q = t := by omega
                have hf := free_any wr _ _ _ HC.out.r.drop (by rw [(st2w_len q q).1]; omega) (by rw [(st2w_len q q).2.1]; omega) (by rw [(st2w_len q q).2.2.1]; omega) (by rw [(st2w_len q q).2.2.2]; omega)
                rw [st2w_free] at hf
                obtain ⟨y0, y1, y2, y3, y4, y5, y6, y7, y8, y9⟩ := (LkM.all10 HC.out.r.drop)
                have HF := Lib.hid hf
                clear hf
                go_wp2_with fail
                refine HF.out.mono ?_
                rintro e w5 ⟨rfl, hb5⟩
                have HC5 := Lib.hid (HC.out.later hb5)
                clear hb5 HC HF y0 y1 y2 y3 y4 y5 y6 y7 y8 y9
                go_wp2_with fail
                refine (HLV.out _).mono ?_
                rintro e w6 ⟨rfl, hb6⟩
                have HB := Lib.hid (HC5.out.later hb6).b
                clear hb6
                go_wp2_with fail
                go_ret
                exact ⟨rfl, HB.out⟩
end Go.Proofs.Ytnbicfknohmenaa.locksConds
