/-
  The steps of a byte: the array that a closure fills.
-/
import Derived.Test.YtjhgegoipnjgmaaBytes
import Derived.Test.YtjhgegoipnjgmaaBits32
import Derived.Deep.WholeRow
import Derived.Deep.DeepFit
namespace Go.Proofs.Ytjhgegoipnjgmaa
open Go.RowKit Plain

def U (n : Nat) : Value := .int .u32 (n : Int)
def US (l : List Nat) : Array Value := (l.map U).toArray
theorem US_size (l : List Nat) : (US l).size = l.length := by simp [US]
theorem US_get (l : List Nat) (j : Nat) : (US l)[j]? = (l[j]?).map U := by simp [US]
theorem US_set (l : List Nat) (j v : Nat) : (US l).setIfInBounds j (U v) = US (l.set j v) := by simp [US, List.map_set]
theorem US_one (l : List Nat) : (US l).all (·.oneCell') = true := by
  refine Array.all_eq_true_iff_forall_mem.2 fun v hv => ?_
  simp [US] at hv
  obtain ⟨x, _, rfl⟩ := hv
  rfl
theorem below_setRow {B : Nat} {a w : World} (h : Below B a w) (g : Nat) (hg : B ≤ g) (cs : Array Value) : Below B a (w.setRow g cs) :=
  ⟨h.os, h.tape, h.output, by rw [size_setRow]; exact h.size, fun i hi => (setRow_other w g i cs (by omega)).trans (h.block i hi)⟩
/-- The steps of the bytes below m stand there. -/
def Filled (m : Nat) (cs : List Nat) : Prop := cs.length = 256 ∧ ∀ j, j < m → cs[j]? = some (stN 8 j)
theorem Filled.more {m : Nat} {cs : List Nat} (h : Filled m cs) (hm : m < 256) : Filled (m + 1) (cs.set m (stN 8 m)) := by
  refine ⟨by simp [h.1], fun j hj => ?_⟩
  by_cases e : j = m
  · subst e
    rw [List.getElem?_set_self (by rw [h.1]; omega)]
  · rw [List.getElem?_set_ne (by omega)]
    exact h.2 j (by omega)

theorem arr_u32 : Try.prog.underlying 45 = some (.array 256 27) := by kernel_rfl
theorem slice_steps (g bit : Nat) (h : bit ≤ 256) (W : World) : (Instr.sliceAt 45 (.pointer (some ⟨g, 0, none⟩)) none (some (.int .i64 (bit : Int))) none).run Try.prog W = .ok (.slice (some ⟨g, 0, none⟩) bit 256) W := by
  have h2 : (bit : Int) ≤ 256 := by omega
  simp [Instr.sliceAt, Instr.sureAddr, run_underlying arr_u32, Instr.sliceBounds, run_sliceBound, h2, Addr.add]

def FillRel (w : World) (g bit : Nat) (k : Nat) (wr : World) : Prop := ∃ cs, Blk wr g 45 (US cs) ∧ Filled (bit + k) cs ∧ Fr (fun x => x = g) w wr

set_option maxHeartbeats 400000 in
theorem fill_any (w : World) (g : Nat) (cs : List Nat) (i bit : Nat) (hb : Blk w g 45 (US cs)) (hf : Filled (2 ^ i) cs) (hi : i ≤ 7) (hbit : bit = 2 ^ i) :
    Calls Try.prog 25 #[.int .i64 (bit : Int), .pointer (some ⟨g, 0, none⟩)] w fun e w' => e = .returned (.tuple #[]) ∧ ∃ cs', Blk w' g 45 (US cs') ∧ Filled (2 ^ (i + 1)) cs' ∧ Fr (fun x => x = g) w w' := by
  have h7 : (2 : Nat) ^ i ≤ 128 := by
    have : (2 : Nat) ^ i ≤ 2 ^ 7 := Nat.pow_le_pow_right (by omega) hi
    omega
  have h1 : 1 ≤ (2 : Nat) ^ i := Nat.one_le_two_pow
  rw [← hbit] at h7 h1
  have HR : Hid (FillRel w g bit 0 w) := ⟨cs, hb, by rw [hbit]; exact hf, Fr.refl _ _⟩
  have hsl := slice_steps g bit (by omega)
  have HI := Lib.hid hi
  have HBIT := Lib.hid hbit
  clear hb hf hi hbit
  go_enter Try.func25, Try.ntmps25
  go_wp2_with fail
  go_loopw [3, 8] (fun r k wr => ∃ (n s : Nat), n ≤ 8 ∧ k = .int .i64 (n : Int) ∧ r = .int .u32 (s : Int) ∧ s ≤ 4294967295 ∧ stN (8 - n) s = stN 8 bit ∧ w = wr) (fun _ k _ => 8 - (intOf k).toNat)
  case atStart => exact ⟨0, bit, by omega, rfl, rfl, by omega, rfl, rfl⟩
  case round =>
    obtain ⟨n, s, hn, rfl, rfl, hs, hst, rfl⟩ := hrel
    have HST := Lib.hid hst
    have HS := Lib.hid hs
    clear hst hs
    by_cases hlt : n < 8
    · go_wp2_with fail
      refine ⟨⟨n + 1, st s, by omega, by go_num, by rw [st_bits s HS.out], ?_, ?_, trivial⟩, by simp [intOf]; omega⟩
      · have := st_lt (r := s) (by have := HS.out; omega)
        omega
      · have := HST.out
        rw [show 8 - n = (8 - (n + 1)) + 1 by omega, stN_succ] at this
        exact this
    · obtain rfl : n = 8 := by omega
      have hs8 : s = stN 8 bit := HST.out
      have HS8 := Lib.hid hs8
      clear hs8 HST
      go_wp2_with fail
      go_loopw [4, 5, 20] (fun u o x wr => ∃ k : Nat, k ≤ bit ∧ x = .int .i64 (k : Int) ∧ FillRel w g bit k wr) (fun _ _ x _ => bit - (intOf x).toNat)
      case atStart => exact ⟨0, by omega, rfl, HR.out⟩
      case round =>
        obtain ⟨k, hk, rfl, hfr⟩ := hrel
        have HF := Lib.hid hfr
        clear hfr
        by_cases hlt : k < bit
        · obtain ⟨cs1, hb1, hf1, hr1⟩ := HF.out
          have hc1 : wr.cell? ⟨g, k, none⟩ = some (.int .u32 (stN 8 k : Nat)) := by
            rw [hb1.cell, US_get, hf1.2 k (by omega)]; rfl
          have h2 : bit + k < 256 := by omega
          obtain ⟨x2, hx2⟩ : ∃ x, wr.cell? ⟨g, bit + k, none⟩ = some x := by
            rw [hb1.cell, US_get, List.getElem?_eq_getElem (by rw [hf1.1]; omega)]; exact ⟨_, rfl⟩
          have hfz := hb1.frozen (bit + k)
          have hor := or_low i k HI.out (by rw [← HBIT.out]; exact hlt)
          rw [← HBIT.out] at hor
          have l1 : stN 8 k < 4294967296 := stN_lt 8 (by omega)
          have l2 : stN 8 bit < 4294967296 := stN_lt 8 (by omega)
          have hx := u32_xor_nat (stN 8 bit) (stN 8 k) l2 l1
          rw [← stN_xor, show bit ^^^ k = bit + k by rw [HBIT.out, xor_add i k (by rw [← HBIT.out]; exact hlt)], ← HS8.out] at hx
          have HB1 := Lib.hid hb1
          have HF1 := Lib.hid hf1
          have HR1 := Lib.hid hr1
          clear hb1 hf1 hr1 l1 l2
          go_wp2_with fail
          refine ⟨⟨k + 1, by omega, by go_num, ?_⟩, by simp [intOf]; omega⟩
          exact ⟨cs1.set (bit + k) (stN 8 (bit + k)), by rw [← US_set]; exact HB1.out.set_ (bit + k) _, HF1.out.more h2, HR1.out.setCell (.inl rfl) _⟩
        · obtain rfl : k = bit := by omega
          go_wp2_with fail
          go_end0
          obtain ⟨cs1, hb1, hf1, hr1⟩ := HF.out
          refine ⟨rfl, cs1, hb1, ?_, hr1⟩
          have hp := HBIT.out
          rwa [show 2 ^ (i + 1) = k + k by rw [Nat.pow_succ, ← hp]; omega]

def zeros : List Nat := List.replicate 256 0
theorem filled_zero : Filled (2 ^ 0) zeros := ⟨List.length_replicate, fun j hj => by
  have h0 : j = 0 := by rw [Nat.pow_zero] at hj; omega
  rw [h0, stN_0]
  show (List.replicate 256 0)[0]? = some 0
  rw [List.getElem?_replicate, if_pos (by omega)]⟩
theorem wrap_pow (k : Nat) (h : k ≤ 7) : wrap64 ((2 : Int) ^ k) = ((2 ^ k : Nat) : Int) := by
  have hp : (2 : Nat) ^ k ≤ 2 ^ 7 := Nat.pow_le_pow_right (by omega) h
  have e : (2 : Nat) ^ 7 = 128 := by decide
  rw [e] at hp
  rw [show (2 : Int) ^ k = ((2 ^ k : Nat) : Int) by simp]
  generalize (2 : Nat) ^ k = p at hp
  exact IntWalk.wrap64_in _ ⟨by omega, by omega⟩
theorem zero_steps : (Try.prog.info? 45).map (fun i => (i.zero, i.size)) = some (some (.agg (US zeros)), 256) := by kernel_rfl
def StepsRel (w : World) (k : Nat) (wr : World) : Prop := ∃ cs, Blk wr (w.heap.size + 1) 45 (US cs) ∧ Filled (2 ^ k) cs ∧ Blk wr w.heap.size 45 (US zeros) ∧ Below w.heap.size w wr

set_option maxHeartbeats 400000 in
theorem byteSteps_any (w : World) :
    Calls Try.prog 23 #[] w fun e w' => ∃ T, Filled 256 T ∧ e = .returned (.agg (US T)) ∧ Below w.heap.size w w' := by
  have hz := (zero_of_info zero_steps).1
  have hmf : ∀ (fn : Fn) (first cap : Array Value) (w : World), (Instr.makeFunc fn first cap).run Try.prog w = .ok (.func fn first cap) w := fun _ _ _ _ => rfl
  go_enter Try.func23, Try.ntmps23
  go_wp2_with fail
  go_loopw [3, 5] (fun u x wr => ∃ k : Nat, k ≤ 8 ∧ x = .int .i64 (k : Int) ∧ StepsRel w k wr) (fun _ x _ => 8 - (intOf x).toNat)
  case atStart => exact ⟨0, by omega, rfl, zeros, heap_alloc2_new w _ _, filled_zero, (Blk.new w _ _).alloc _, ((Below.refl _ _).alloc (Nat.le_refl _) _).alloc (by simp) _⟩
  case round =>
    obtain ⟨k, hk, rfl, cs, hb, hf, hb0, hbel⟩ := hrel
    have HB := Lib.hid hb
    have HF := Lib.hid hf
    have HB0 := Lib.hid hb0
    have HBEL := Lib.hid hbel
    clear hb hf hb0 hbel
    by_cases hlt : k < 8
    · obtain ⟨bit, hbit⟩ : ∃ bit : Nat, bit = 2 ^ k := ⟨_, rfl⟩
      have hw := wrap_pow k (by omega)
      rw [← hbit] at hw
      have HBIT := Lib.hid hbit
      clear hbit
      go_wp2_with fail
      refine (fill_any wr _ cs k bit HB.out HF.out (by omega) HBIT.out).mono ?_
      rintro e w' ⟨rfl, cs', hb', hf', hr'⟩
      have h0 := hr'.blk HB0.out (by omega)
      have hbl : Below w.heap.size w w' := HBEL.out.trans (hr'.below HBEL.out.size (fun i hi => by omega))
      have HB' := Lib.hid hb'
      have HF' := Lib.hid hf'
      have H0 := Lib.hid h0
      have HBL := Lib.hid hbl
      clear hb' hf' hr' h0 hbl
      go_wp2_with fail
      exact ⟨⟨k + 1, by omega, by go_num, cs', HB'.out, HF'.out, H0.out, HBL.out⟩, by simp [intOf]; omega⟩
    · obtain rfl : k = 8 := by omega
      have hsz : (Try.prog.info? 45).map (·.size) = some (US cs).size := by rw [US_size, HF.out.1]; exact (zero_of_info zero_steps).2
      have HSZ := Lib.hid hsz
      have HZS : Hid ((US zeros).size = (US cs).size) := by show _ = _; rw [US_size, US_size, HF.out.1, filled_zero.1]
      have HONE : Hid ((US cs).all (·.oneCell') = true) := US_one cs
      clear hsz
      go_wp2_with (first
        | (refine wpList_load_row rfl 45 (.tmp 1) rfl (w.heap.size + 1) rfl 45 (US cs) (0, 0) (.array 256 27) HB.out arr_u32 rfl HSZ.out ?_)
        | (refine wpList_store_row rfl 45 (.tmp 0) (.tmp 13) rfl w.heap.size (US cs) rfl rfl 45 (US zeros) HB0.out HSZ.out HZS.out HONE.out ?_))
      refine bodyPost_ret (v := .agg (US cs)) (results_cell_row rfl _ _ w.heap.size 45 (US cs) (0, 0) (.array 256 27) rfl (setRow_heap wr _ (US zeros) _ _ _ HB0.out) arr_u32 rfl HSZ.out) rfl ⟨cs, HF.out, rfl, below_setRow HBEL.out _ (Nat.le_refl _) _⟩
end Go.Proofs.Ytjhgegoipnjgmaa
