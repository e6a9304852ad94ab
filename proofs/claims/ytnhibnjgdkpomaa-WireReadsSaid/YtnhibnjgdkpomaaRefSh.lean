/-
  The document's own reader: a short number.
-/
import Derived.Test.YtnhibnjgdkpomaaRefFx
import Derived.Test.YtnhibnjgdkpomaaRef
import Derived.Test.YtnhibnjgdkpomaaRsJ
namespace Go.Proofs.Ytnhibnjgdkpomaa
open Go.RowKit Plain

set_option maxHeartbeats 400000 in
theorem ref_rshort_stop (n c at_ : Nat) (A : Option Addr) (e : Int) (w : World) (h : e ≠ 0) :
    Calls Try.prog 41 #[.agg #[.slice A n c, .int .i64 (at_ : Int), .int .i64 e]] w fun en w' => en = .returned (.tuple #[.agg #[.slice A n c, .int .i64 (at_ : Int), .int .i64 e], .int .i64 0]) ∧ Below w.heap.size w w' := by
  have he' : (e != 0) = true := by simpa using h
  clear h
  go_enter Try.func41, Try.ntmps41
  go_wp2_with fail
  refine bodyPost_ret (v := .tuple #[.agg #[.slice A n c, .int .i64 (at_ : Int), .int .i64 e], .int .i64 0]) (by simp [results, Try.results41, go_sem]) rfl ⟨rfl, ?_⟩
  repeat (first | exact Below.refl _ _ | refine Below.drew ?_ | (refine Below.setCell ?_ (by simp) _) | (refine Below.alloc ?_ (by simp) _))

/-- Where the loop stands that reckons the number: bytes from j on are in. -/
def RshRel (l : List Nat) (m : Nat) (a s : Value) : Prop := ∃ j V : Nat, j ≤ m ∧ s = .int .i64 ((j : Int) - 1) ∧ a = .int .i64 (V : Int) ∧ Hid (V = sv (l.drop j))

/-- What the document's ReadShort tells. -/
def RshTold (A : Option Addr) (n c at_ : Nat) (xs : List Nat) (en : Ending) : Prop :=
  ∃ V K E : Nat, rs xs = (V, K, E) ∧ en = .returned (.tuple #[.agg #[.slice A n c, .int .i64 ((at_ + K : Nat) : Int), .int .i64 (E : Int)], .int .i64 (V : Int)])

set_option maxRecDepth 100000 in
set_option maxHeartbeats 4000000 in
theorem ref_rshort (bs : List Nat) (n c at_ : Nat) (A : Option Addr) (w : World) (BB : Nat) (hr : Reads w BB 1 A n (BS bs)) (hx : ∀ x ∈ bs, x < 256) (hbl : bs.length = n) (hB : BB ≤ w.heap.size) (hnc : n ≤ c) (hn : n ≤ 140737488355328) (hat : at_ ≤ n) :
    Calls Try.prog 41 #[.agg #[.slice A n c, .int .i64 (at_ : Int), .int .i64 0]] w fun en w' => RshTold A n c at_ (bs.drop at_) en ∧ Below w.heap.size w w' := by
  have HR := Lib.hid hr
  obtain ⟨m, hm⟩ : ∃ m, m = n - at_ := ⟨_, rfl⟩
  have hlm : (bs.drop at_).length = m := by rw [List.length_drop, hbl, hm]
  have hmn : at_ + m = n := by omega
  have HL := Lib.hid hlm
  have HX : Hid (∀ x ∈ bs.drop at_, x < 256) := fun x h => hx x (List.mem_of_mem_drop h)
  have HM := Lib.hid hm
  obtain ⟨xs, hxs⟩ : ∃ xs, xs = bs.drop at_ := ⟨_, rfl⟩
  rw [← hxs] at HL HX ⊢
  have HXS := Lib.hid hxs
  clear hr hx hlm hbl hm hxs
  go_enter Try.func41, Try.ntmps41
  go_wp2_with fail
  refine (ref_left bs n c at_ A 0 _ BB ((HR.out.alloc hB _).alloc (by simp; omega) _) hnc hat hn).mono ?_
  rintro e w1 ⟨A', c', rfl, h2, h3, h4⟩
  obtain ⟨hk0, hk1, z1, hb1⟩ := boxes h4
  rw [← HM.out] at h2 h3 ⊢
  rw [← HXS.out] at h2
  have HC := Lib.hid (((h2.more (B' := ((w.alloc (.cells #[.slice A n c, .int .i64 (at_ : Int), .int .i64 0] 34)).alloc (.cells #[.slice none 0 0, .int .i64 0, .int .i64 0] 34)).heap.size) (by simp; omega)).below h4))
  have HB1 := Lib.hid hb1
  have HK0 := Lib.hid hk0
  have HK1 := Lib.hid hk1
  clear h2 h4 hk0 hk1 hb1
  go_wp2_with fail
  go_loopw [5] (fun s wr => ∃ k : Nat, k ≤ m ∧ k ≤ 9 ∧ s = .int .i64 (k : Int) ∧ Hid (High xs k) ∧ w1 = wr) (fun s _ => m - (intOf s).toNat)
  case atStart => exact ⟨0, by omega, by omega, rfl, High.zero xs, rfl⟩
  case round =>
    obtain ⟨k, hkm, hk9, rfl, HH, rfl⟩ := hrel
    by_cases hlt : k < m
    · by_cases hlt9 : k < 9
      · obtain ⟨ad, v, rfl, _, hu, hcell⟩ := HC.out.at_ hlt
        have hkl : k < xs.length := by rw [HL.out]; exact hlt
        obtain ⟨x, hxe⟩ : ∃ x, xs[k]? = some x := ⟨_, List.getElem?_eq_getElem hkl⟩
        have hv : v = .int .u8 (x : Int) := by
          simp only [BS, List.getElem?_map, hxe, Option.map_some, Option.some.injEq] at hu
          rw [← hu]; rfl
        subst hv
        have HXE := Lib.hid hxe
        have hx256 : x < 256 := HX.out x (List.mem_of_getElem? hxe)
        clear hu hxe
        by_cases hhi : 128 ≤ x
        · have hh : High xs (k + 1) := HH.out.succ HXE.out hhi
          have HH1 := Lib.hid hh
          clear hh
          go_wp2_with fail
          exact ⟨⟨k + 1, by omega, by omega, by go_num, HH1.out, trivial⟩, by simp [intOf]; omega⟩
        · have hx128 : x < 128 := by omega
          have hk8 : k ≤ 8 := by omega
          have kn9 : ((k : Int) == 9) = false := by simp; omega
          have knm : ((k : Int) == (m : Int)) = false := by simp; omega
          clear hhi
          have hlk : (xs.take (k + 1)).length = k + 1 := List.length_take_of_le (by omega)
          have HLK := Lib.hid hlk
          clear hlk
          go_wp2_with fail
          go_loopw [6, 7] (fun a s wr => RshRel (xs.take (k + 1)) (k + 1) a s ∧ w1 = wr) (fun _ s _ => (intOf s + 1).toNat)
          case atStart => exact ⟨⟨k + 1, 0, by omega, by go_num, rfl, by show 0 = sv _; rw [List.drop_of_length_le (by rw [HLK.out]; omega)]; rfl⟩, rfl⟩
          case round =>
            obtain ⟨⟨j, V, hj, rfl, rfl, hV⟩, rfl⟩ := hrel
            by_cases hj0 : 1 ≤ j
            · obtain ⟨i, rfl⟩ : ∃ i, j = i + 1 := ⟨j - 1, by omega⟩
              obtain ⟨ad2, u, e2, _, hu, hcell2⟩ := HC.out.at_ (show i < m by omega)
              injection e2 with e2
              subst e2
              have hil : i < xs.length := by omega
              obtain ⟨y, hye⟩ : ∃ y, xs[i]? = some y := ⟨_, List.getElem?_eq_getElem hil⟩
              have hv : u = .int .u8 (y : Int) := by
                simp only [BS, List.getElem?_map, hye, Option.map_some, Option.some.injEq] at hu
                rw [← hu]; rfl
              subst hv
              have hy256 : y < 256 := HX.out y (List.mem_of_getElem? hye)
              have hVl : V < 72057594037927936 := by rw [hV.out]; exact sv_drop_le (by rw [HLK.out]; omega)
              have hyt : (xs.take (k + 1))[i]? = some y := by rw [List.getElem?_take_of_lt (by omega)]; exact hye
              have hnx : y % 128 + 128 * V = sv ((xs.take (k + 1)).drop i) := by rw [sv_drop hyt, hV.out]
              have HNX := Lib.hid hnx
              rw [show ((i + 1 : Nat) : Int) - 1 = (i : Int) by omega]
              clear hu hye hyt hnx
              go_wp2_with fail
              exact ⟨⟨⟨i, y % 128 + 128 * V, by omega, by go_num, by go_num, HNX.out⟩, trivial⟩, by simp [intOf]⟩
            · obtain rfl : j = 0 := by omega
              have hVe : V = sv (xs.take (k + 1)) := by have := hV.out; simpa using this
              have hV9 : V ≤ 9223372036854775807 := by rw [hVe]; exact sv_int hk8 hkl
              have HVE := Lib.hid hVe
              clear hVe hV
              go_wp2_with fail
              refine (ref_short_nat V w1 hV9).mono ?_
              rintro en w2 ⟨A2, c2, rfl, _, hm2⟩
              have z2 := hm2.size
              have HB2 := Lib.hid (HB1.out.trans (hm2.mono (show w.heap.size ≤ w1.heap.size by omega)))
              have HK0b := Lib.hid (HK0.out.below hm2 HK0.out.lt)
              have HK1b := Lib.hid (HK1.out.below hm2 HK1.out.lt)
              have a0 : w2.cell? ⟨w.heap.size, 0, none⟩ = some (.slice A n c) := by rw [HK0b.out.cell]; rfl
              have a1 : w2.cell? ⟨w.heap.size, 1, none⟩ = some (.int .i64 (at_ : Int)) := by rw [HK0b.out.cell]; rfl
              have a2 : w2.cell? ⟨w.heap.size, 2, none⟩ = some (.int .i64 0) := by rw [HK0b.out.cell]; rfl
              clear hm2
              by_cases hz : x = 0 ∧ k ≠ 0
              · obtain ⟨rfl, hk0'⟩ := hz
                have hrs : rs xs = (0, 0, 3) := rs_zero hk8 HH.out HXE.out hk0'
                have hlen : (shortL V).length ≠ k + 1 := by rw [HVE.out]; exact len_zero HXE.out hk0'
                have hneq : (((shortL V).length : Int) != (k : Int) + 1) = true := by
                  have : ¬ (((shortL V).length : Int) = (k : Int) + 1) := by omega
                  simpa using this
                have HRS := Lib.hid hrs
                generalize (shortL V).length = L at hneq hlen ⊢
                clear hrs hlen
                go_wp2_with fail
                refine (ref_fail n c at_ A 0 3 w2).mono ?_
                rintro en w3 ⟨rfl, h5⟩
                have hk2 := HK1b.out.below h5 HK1b.out.lt
                have z3 := h5.size
                have b0 : w3.cell? ⟨w.heap.size + 1, 0, none⟩ = some (.slice none 0 0) := by rw [hk2.cell]; rfl
                have b1 : w3.cell? ⟨w.heap.size + 1, 1, none⟩ = some (.int .i64 0) := by rw [hk2.cell]; rfl
                have b2 : w3.cell? ⟨w.heap.size + 1, 2, none⟩ = some (.int .i64 0) := by rw [hk2.cell]; rfl
                have g0 := hk2.frozen 0
                have g1 := hk2.frozen 1
                have g2 := hk2.frozen 2
                have HB3 := Lib.hid (HB2.out.trans (h5.mono (show w.heap.size ≤ w2.heap.size by omega)))
                clear h5 hk2 a0 a1 a2
                go_wp2_with fail
                refine bodyPost_ret (v := .tuple #[.agg #[.slice A n c, .int .i64 (at_ : Int), .int .i64 3], .int .i64 0]) (by simp [results, Try.results41, go_sem, b0, b1, b2]) rfl ⟨⟨0, 0, 3, HRS.out, rfl⟩, ?_⟩
                repeat (first | exact HB3.out | refine Below.drew ?_ | (refine Below.setCell ?_ (by simp) _))
              · have h0 : 0 < x ∨ k = 0 := by omega
                have hrs : rs xs = (V, k + 1, 0) := by rw [HVE.out]; exact rs_here hk8 HH.out HXE.out hx128 h0
                have hlen : (shortL V).length = k + 1 := by rw [HVE.out]; exact len_here hk8 HXE.out hx128 h0
                have HRS := Lib.hid hrs
                have f1 := HK0b.out.frozen 1
                have g0 := HK1b.out.frozen 0
                have g1 := HK1b.out.frozen 1
                have g2 := HK1b.out.frozen 2
                have b0 : w2.cell? ⟨w.heap.size + 1, 0, none⟩ = some (.slice none 0 0) := by rw [HK1b.out.cell]; rfl
                have b1 : w2.cell? ⟨w.heap.size + 1, 1, none⟩ = some (.int .i64 0) := by rw [HK1b.out.cell]; rfl
                have b2 : w2.cell? ⟨w.heap.size + 1, 2, none⟩ = some (.int .i64 0) := by rw [HK1b.out.cell]; rfl
                rw [hlen]
                clear hrs hlen hz
                go_wp2_with fail
                refine bodyPost_ret (v := .tuple #[.agg #[.slice A n c, .int .i64 ((at_ : Int) + (k : Int) + 1), .int .i64 0], .int .i64 (V : Int)]) (by simp [results, Try.results41, go_sem, b0, b1, b2]) rfl ⟨⟨V, k + 1, 0, HRS.out, by rw [show ((at_ + (k + 1) : Nat) : Int) = (at_ : Int) + (k : Int) + 1 by omega]; rfl⟩, ?_⟩
                repeat (first | exact HB2.out | refine Below.drew ?_ | (refine Below.setCell ?_ (by simp) _))
      · obtain rfl : k = 9 := by omega
        have a0 : w1.cell? ⟨w.heap.size, 0, none⟩ = some (.slice A n c) := by rw [HK0.out.cell]; rfl
        have a1 : w1.cell? ⟨w.heap.size, 1, none⟩ = some (.int .i64 (at_ : Int)) := by rw [HK0.out.cell]; rfl
        have a2 : w1.cell? ⟨w.heap.size, 2, none⟩ = some (.int .i64 0) := by rw [HK0.out.cell]; rfl
        have hrs : rs xs = (0, 0, 3) := rs_nine (by rw [HL.out]; omega) HH.out
        have HRS := Lib.hid hrs
        clear hrs
        go_wp2_with fail
        refine (ref_fail n c at_ A 0 3 w1).mono ?_
        rintro en w2 ⟨rfl, h5⟩
        have hk2 := HK1.out.below h5 HK1.out.lt
        have z2 := h5.size
        have b0 : w2.cell? ⟨w.heap.size + 1, 0, none⟩ = some (.slice none 0 0) := by rw [hk2.cell]; rfl
        have b1 : w2.cell? ⟨w.heap.size + 1, 1, none⟩ = some (.int .i64 0) := by rw [hk2.cell]; rfl
        have b2 : w2.cell? ⟨w.heap.size + 1, 2, none⟩ = some (.int .i64 0) := by rw [hk2.cell]; rfl
        have g0 := hk2.frozen 0
        have g1 := hk2.frozen 1
        have g2 := hk2.frozen 2
        have HB2 := Lib.hid (HB1.out.trans (h5.mono (show w.heap.size ≤ w1.heap.size by omega)))
        clear h5 hk2 a0 a1 a2
        go_wp2_with fail
        refine bodyPost_ret (v := .tuple #[.agg #[.slice A n c, .int .i64 (at_ : Int), .int .i64 3], .int .i64 0]) (by simp [results, Try.results41, go_sem, b0, b1, b2]) rfl ⟨⟨0, 0, 3, HRS.out, rfl⟩, ?_⟩
        repeat (first | exact HB2.out | refine Below.drew ?_ | (refine Below.setCell ?_ (by simp) _))
    · obtain rfl : k = m := by omega
      by_cases h9 : k = 9
      · subst h9
        have a0 : w1.cell? ⟨w.heap.size, 0, none⟩ = some (.slice A n c) := by rw [HK0.out.cell]; rfl
        have a1 : w1.cell? ⟨w.heap.size, 1, none⟩ = some (.int .i64 (at_ : Int)) := by rw [HK0.out.cell]; rfl
        have a2 : w1.cell? ⟨w.heap.size, 2, none⟩ = some (.int .i64 0) := by rw [HK0.out.cell]; rfl
        have hrs : rs xs = (0, 0, 3) := rs_nine (by rw [HL.out]; omega) HH.out
        have HRS := Lib.hid hrs
        clear hrs
        go_wp2_with fail
        refine (ref_fail n c at_ A 0 3 w1).mono ?_
        rintro en w2 ⟨rfl, h5⟩
        have hk2 := HK1.out.below h5 HK1.out.lt
        have z2 := h5.size
        have b0 : w2.cell? ⟨w.heap.size + 1, 0, none⟩ = some (.slice none 0 0) := by rw [hk2.cell]; rfl
        have b1 : w2.cell? ⟨w.heap.size + 1, 1, none⟩ = some (.int .i64 0) := by rw [hk2.cell]; rfl
        have b2 : w2.cell? ⟨w.heap.size + 1, 2, none⟩ = some (.int .i64 0) := by rw [hk2.cell]; rfl
        have g0 := hk2.frozen 0
        have g1 := hk2.frozen 1
        have g2 := hk2.frozen 2
        have HB2 := Lib.hid (HB1.out.trans (h5.mono (show w.heap.size ≤ w1.heap.size by omega)))
        clear h5 hk2 a0 a1 a2
        go_wp2_with fail
        refine bodyPost_ret (v := .tuple #[.agg #[.slice A n c, .int .i64 (at_ : Int), .int .i64 3], .int .i64 0]) (by simp [results, Try.results41, go_sem, b0, b1, b2]) rfl ⟨⟨0, 0, 3, HRS.out, rfl⟩, ?_⟩
        repeat (first | exact HB2.out | refine Below.drew ?_ | (refine Below.setCell ?_ (by simp) _))
      · have kn9 : ((k : Int) == 9) = false := by simp; omega
        have a0 : w1.cell? ⟨w.heap.size, 0, none⟩ = some (.slice A n c) := by rw [HK0.out.cell]; rfl
        have a1 : w1.cell? ⟨w.heap.size, 1, none⟩ = some (.int .i64 (at_ : Int)) := by rw [HK0.out.cell]; rfl
        have a2 : w1.cell? ⟨w.heap.size, 2, none⟩ = some (.int .i64 0) := by rw [HK0.out.cell]; rfl
        have hrs : rs xs = (0, 0, 2) := rs_less HL.out (by omega) HH.out
        have HRS := Lib.hid hrs
        clear hrs
        go_wp2_with fail
        refine (ref_fail n c at_ A 0 2 w1).mono ?_
        rintro en w2 ⟨rfl, h5⟩
        have hk2 := HK1.out.below h5 HK1.out.lt
        have z2 := h5.size
        have b0 : w2.cell? ⟨w.heap.size + 1, 0, none⟩ = some (.slice none 0 0) := by rw [hk2.cell]; rfl
        have b1 : w2.cell? ⟨w.heap.size + 1, 1, none⟩ = some (.int .i64 0) := by rw [hk2.cell]; rfl
        have b2 : w2.cell? ⟨w.heap.size + 1, 2, none⟩ = some (.int .i64 0) := by rw [hk2.cell]; rfl
        have g0 := hk2.frozen 0
        have g1 := hk2.frozen 1
        have g2 := hk2.frozen 2
        have HB2 := Lib.hid (HB1.out.trans (h5.mono (show w.heap.size ≤ w1.heap.size by omega)))
        clear h5 hk2 a0 a1 a2
        go_wp2_with fail
        refine bodyPost_ret (v := .tuple #[.agg #[.slice A n c, .int .i64 (at_ : Int), .int .i64 2], .int .i64 0]) (by simp [results, Try.results41, go_sem, b0, b1, b2]) rfl ⟨⟨0, 0, 2, HRS.out, rfl⟩, ?_⟩
        repeat (first | exact HB2.out | refine Below.drew ?_ | (refine Below.setCell ?_ (by simp) _))
end Go.Proofs.Ytnhibnjgdkpomaa
