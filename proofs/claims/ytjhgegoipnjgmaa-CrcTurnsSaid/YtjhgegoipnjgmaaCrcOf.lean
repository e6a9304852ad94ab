/-
  The sum of bytes, as the program and as the document reckon it.
-/
import Derived.Test.YtjhgegoipnjgmaaCrcAdd
import Derived.Lib.SlBytesConst
namespace Go.Proofs.Ytjhgegoipnjgmaa
open Go.RowKit Plain

set_option maxHeartbeats 400000 in
theorem of_any (w : World) (xs : List Nat) (m : Nat) (hl : xs.length = m) (hx : ∀ x ∈ xs, x < 256) (BB : Nat) (A : Option Addr) (c : Nat) (hrd : Reads w BB 1 A m (BS xs)) (hB : BB ≤ w.heap.size) (hn : m ≤ 4611686018427387904) :
    Calls Try.prog 15 #[.slice A m c] w fun e w' => e = .returned (.int .u32 ((crcL xs : Nat) : Int)) ∧ Below w.heap.size w w' := by
  have HRD := Lib.hid hrd
  have HL := Lib.hid hl
  have HX := Lib.hid hx
  clear hrd hl hx
  go_enter Try.func15, Try.ntmps15
  go_wp2_with fail
  refine (new_any w).mono ?_
  rintro e w1 ⟨g, rfl, hs, hg, hb⟩
  have hrd1 := HRD.out.keep (w' := w1) fun p hp => hb.cell (by omega)
  have HS := Lib.hid hs
  have HB := Lib.hid hb
  clear hs hb
  go_wp2_with fail
  refine (add_any w1 g _ _ HS.out (by omega) xs m HL.out HX.out BB A c hrd1 (by omega)).mono ?_
  rintro e w2 ⟨rfl, hs2, hf2⟩
  have hb2 : Below w.heap.size w w2 := HB.out.trans (hf2.below HB.out.size (fun i hi => by omega))
  have HB2 := Lib.hid hb2
  clear hf2 hb2
  go_wp2_with fail
  refine (now_any w2 g _ _ (regL_lt (by omega) xs HX.out) hs2).mono ?_
  rintro e w3 ⟨rfl, rfl⟩
  go_wp2_with fail
  go_ret
  exact ⟨rfl, HB2.out⟩

theorem crc_example : crcL [49, 50, 51, 52, 53, 54, 55, 56, 57] = 3421780262 := by decide +kernel

def NineB : List Nat := [49, 50, 51, 52, 53, 54, 55, 56, 57]
theorem reads_nine (w : World) (t : TypeId) (fz : Nat × Nat) : Reads (w.alloc (.cells #[.int .u8 49, .int .u8 50, .int .u8 51, .int .u8 52, .int .u8 53, .int .u8 54, .int .u8 55, .int .u8 56, .int .u8 57] t fz)) (w.heap.size + 1) 1 (some ⟨w.heap.size, 0, none⟩) 9 (BS NineB) := by
  refine ⟨rfl, fun _ => ⟨_, rfl, Nat.lt_succ_self _, fun j u hj => ?_⟩⟩
  have hb := cell_of_row (w.alloc (.cells (BS NineB).toArray t fz)) w.heap.size j (BS NineB).toArray t fz (heap_alloc_new w _)
  rw [show (⟨w.heap.size, 0, none⟩ : Addr).add j = ⟨w.heap.size, j, none⟩ by simp [Addr.add]; omega]
  refine hb.trans ?_
  rw [List.getElem?_toArray]
  exact hj

set_option maxHeartbeats 400000 in
theorem crc_lives (w : World) : Calls Try.prog 17 #[] w fun e w' => e = .returned (.bool true) ∧ Below w.heap.size w w' := by
  have kc := fun (w : World) (C : Array Value) (n c : Nat) => Lib.run_convert_bytes_const (P := Try.prog) w 22 5 C n c Try.underlying22 Try.underlying5
  go_enter Try.func17, Try.ntmps17
  go_wp2_with fail
  refine (of_any _ NineB 9 rfl (by decide) _ _ _ (reads_nine w _ _) (by simp) (by omega)).mono ?_
  rintro e w1 ⟨rfl, hb⟩
  have h0 : ((crcL NineB : Nat) : Int) = 3421780262 := by rw [NineB, crc_example]; rfl
  go_wp2_with fail
  go_ret
  exact ⟨rfl, ((Below.refl _ w).alloc (Nat.le_refl _) _).trans (hb.mono (by simp))⟩

theorem fits_any (w : World) (xs : List Nat) (m : Nat) (hl : xs.length = m) (hx : ∀ x ∈ xs, x < 256) (BB : Nat) (A : Option Addr) (c : Nat) (hrd : Reads w BB 1 A m (BS xs)) (hB : BB ≤ w.heap.size) (hn : m ≤ 4611686018427387904) (s : Nat) (b : Bool) (hb : decide (crcL xs = s) = b) :
    Calls Try.prog 16 #[.slice A m c, .int .u32 (s : Int)] w fun e w' => e = .returned (.bool b) ∧ Below w.heap.size w w' := by
  have hb1 : ((crcL xs : Int) == (s : Int)) = b := by
    rw [← hb]
    by_cases h : crcL xs = s
    · simp [h]
    · have h' : ¬ ((crcL xs : Int) = (s : Int)) := by omega
      simp [h, h']
  have H1 := Lib.hid hb1
  clear hb1 hb
  go_enter Try.func16, Try.ntmps16
  go_wp2_with fail
  refine (of_any w xs m hl hx BB A c hrd hB hn).mono ?_
  rintro e w1 ⟨rfl, hbl⟩
  clear hl hx hrd
  have h1 := H1.out
  go_wp2_with fail
  go_ret
  exact ⟨rfl, hbl⟩

set_option maxHeartbeats 1000000 in
theorem ref_of (w : World) (xs : List Nat) (m : Nat) (hl : xs.length = m) (hx : ∀ x ∈ xs, x < 256) (BB : Nat) (A : Option Addr) (c : Nat) (hrd : Reads w BB 1 A m (BS xs)) (hn : m ≤ 4611686018427387904) :
    Calls Try.prog 13 #[.slice A m c] w fun e w' => e = .returned (.int .u32 ((crcL xs : Nat) : Int)) ∧ w = w' := by
  have HRD := Lib.hid hrd
  have HL := Lib.hid hl
  have HX := Lib.hid hx
  clear hrd hl hx
  go_enter Try.func13, Try.ntmps13
  go_wp2_with fail
  go_loopw [3, 4] (fun q i wr => ∃ k : Nat, k ≤ m ∧ i = .int .i64 (k : Int) ∧ q = .int .u32 ((regL cFull (xs.take k) : Nat) : Int) ∧ w = wr) (fun _ i _ => m - (intOf i).toNat)
  case atStart => exact ⟨0, by omega, rfl, rfl, rfl⟩
  case round =>
    obtain ⟨k, hk, rfl, rfl, rfl⟩ := hrel
    by_cases hlt : k < m
    · obtain ⟨ad, v, rfl, _, hu, hcell⟩ := HRD.out.at_ hlt
      have hkl : k < xs.length := by rw [HL.out]; exact hlt
      obtain ⟨x, hxe⟩ : ∃ x, x = xs[k] := ⟨_, rfl⟩
      have hv : v = .int .u8 (x : Int) := by
        simp only [BS, List.getElem?_map, List.getElem?_eq_getElem hkl, Option.map_some, Option.some.injEq] at hu
        rw [← hu, hxe]; rfl
      subst hv
      have hx256 : x < 256 := by rw [hxe]; exact HX.out _ (List.getElem_mem _)
      obtain ⟨q, hq⟩ : ∃ q, q = regL cFull (xs.take k) := ⟨_, rfl⟩
      have hq32 : q < 4294967296 := by rw [hq]; exact regL_lt (by decide) _ (fun y hy => HX.out y (List.mem_of_mem_take hy))
      have hnx : regL cFull (xs.take (k + 1)) = byteIn q x := by
        rw [List.take_succ_eq_append_getElem hkl, regL_snoc, hq, hxe]
      rw [← hq]
      have e1 := u32_xor_nat q x hq32 (by omega)
      have HQ := Lib.hid hq
      have HNX := Lib.hid hnx
      have HXE := Lib.hid hxe
      clear hq hnx hxe hu
      have l0 : q ^^^ x ≤ 4294967295 := by
        have := Nat.xor_lt_two_pow (n := 32) (x := q) (y := x) hq32 (by omega)
        omega
      go_wp2_with fail
      go_loopw [3, 5] (fun r n wr => ∃ (i s : Nat), i ≤ 8 ∧ n = .int .i64 (i : Int) ∧ r = .int .u32 (s : Int) ∧ s ≤ 4294967295 ∧ stN (8 - i) s = byteIn q x ∧ w = wr) (fun _ n _ => 8 - (intOf n).toNat)
      case atStart => exact ⟨0, q ^^^ x, by omega, rfl, rfl, l0, rfl, rfl⟩
      case round =>
        obtain ⟨i, s, hi, rfl, rfl, hs, hst, rfl⟩ := hrel
        have HST := Lib.hid hst
        clear hst
        by_cases hlt : i < 8
        · have hnx : stN (8 - (i + 1)) (st s) = byteIn q x := by
            have := HST.out
            rw [show 8 - i = (8 - (i + 1)) + 1 by omega, stN_succ] at this
            exact this
          have hlt : st s ≤ 4294967295 := by have := st_lt (r := s) (by omega); omega
          have HN := Lib.hid hnx
          clear hnx
          by_cases hodd : (s : Int) % 2 = 1
          · have e2 : bits .xor .u32 ((s : Int) / 2) 3988292384 = ((st s : Nat) : Int) := by
              rw [show ((s : Int) / 2) = ((s / 2 : Nat) : Int) by omega]
              refine (u32_xor_nat (s / 2) cPoly (by omega) (by decide)).trans ?_
              rw [st, if_pos (by omega)]
            go_wp2_with fail
            exact ⟨⟨i + 1, st s, by omega, by go_num, rfl, hlt, HN.out, trivial⟩, by simp [intOf]; omega⟩
          · have e2 : ((s : Int) / 2) = ((st s : Nat) : Int) := by
              rw [st, if_neg (by omega)]; omega
            have HE := Lib.hid e2
            clear e2
            go_wp2_with fail
            exact ⟨⟨i + 1, st s, by omega, by go_num, by rw [HE.out], hlt, HN.out, trivial⟩, by simp [intOf]; omega⟩
        · obtain rfl : i = 8 := by omega
          have hse : s = byteIn q x := HST.out
          have HSE := Lib.hid hse
          clear hse
          go_wp2_with fail
          exact ⟨⟨k + 1, by omega, by go_num, by rw [HNX.out, HSE.out], trivial⟩, by simp [intOf]; omega⟩
    · obtain rfl : k = m := by omega
      have hall : xs.take k = xs := List.take_of_length_le (by rw [HL.out]; omega)
      rw [hall]
      clear hall
      have hlt : regL cFull xs < 4294967296 := regL_lt (by decide) xs HX.out
      have e3 : ((crcL xs : Nat) : Int) = 4294967295 - ((regL cFull xs : Nat) : Int) := by
        show ((4294967295 - regL cFull xs : Nat) : Int) = _
        omega
      have HE := Lib.hid e3
      clear e3
      go_wp2_with fail
      go_ret
      exact ⟨ret_int HE.out.symm, rfl⟩
end Go.Proofs.Ytjhgegoipnjgmaa
