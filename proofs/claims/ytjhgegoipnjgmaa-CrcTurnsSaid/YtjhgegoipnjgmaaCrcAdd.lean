/-
  What a Sum does: a new one, more bytes, what it tells; the sum of bytes.
-/
import Derived.Test.YtjhgegoipnjgmaaCrcSum
namespace Go.Proofs.Ytjhgegoipnjgmaa
open Go.RowKit Plain

/-- The Sum in block g: its register, how many bytes came; its steps are a byte's. -/
def Sm (w : World) (g r n : Nat) : Prop := ∃ T, Blk w g 48 (SumC r n T) ∧ Filled 256 T

section
variable {w w' : World} {g r n : Nat}
theorem Sm.lt (h : Sm w g r n) : g < w.heap.size := by obtain ⟨T, hb, _⟩ := h; exact hb.lt
theorem Sm.fr {S : Nat → Prop} (h : Sm w g r n) (hf : Fr S w w') (hS : ¬ S g) : Sm w' g r n := by obtain ⟨T, hb, hT⟩ := h; exact ⟨T, hf.blk hb hS, hT⟩
theorem Sm.below (h : Sm w g r n) (hb : Below w.heap.size w w') : Sm w' g r n := h.fr (Fr.of_below hb) (by have := h.lt; omega)
theorem Sm.drewN (h : Sm w g r n) (k : Nat) : Sm (w.drewN k) g r n := h
end

theorem ret_int {k : IntKind} {a b : Int} (h : a = b) : Ending.returned (.int k a) = .returned (.int k b) := by rw [h]

set_option maxRecDepth 100000 in
set_option maxHeartbeats 400000 in
theorem new_any (w : World) :
    Calls Try.prog 10 #[] w fun e w' => ∃ g, e = .returned (.pointer (some ⟨g, 0, none⟩)) ∧ Sm w' g 4294967295 0 ∧ w.heap.size ≤ g ∧ Below w.heap.size w w' := by
  go_enter Try.func10, Try.ntmps10
  go_wp2_with fail
  refine (byteSteps_any w).mono ?_
  rintro e w1 ⟨T, hT, rfl, hb⟩
  have z1 := hb.size
  have hbu := Lib.hid (built_sum T hT.1)
  have HT := Lib.hid hT
  have HB := Lib.hid hb
  clear hT hb
  go_wp2_with (refine wpList_build_eq rfl 48 #[(0, Operand.const (.int .u32 4294967295)), (2, .tmp 1)] rfl [(0, .int .u32 4294967295), (2, .agg (US T))] rfl (SumC 4294967295 0 T) hbu.out ?_)
  go_ret
  exact ⟨_, rfl, ⟨T, Blk.new w1 _ _, HT.out⟩, z1, HB.out.alloc z1 _⟩

theorem now_any (w : World) (g r n : Nat) (hr : r < 4294967296) (h : Sm w g r n) :
    Calls Try.prog 12 #[.pointer (some ⟨g, 0, none⟩)] w fun e w' => e = .returned (.int .u32 ((cFull - r : Nat) : Int)) ∧ w = w' := by
  obtain ⟨T, hb, hT⟩ := h
  have hc : w.cell? ⟨g, 0, none⟩ = some (.int .u32 (r : Int)) := by rw [hb.cell, SumC_0]
  have e0 : bits .xor .u32 IntKind.u32.max (r : Int) = ((cFull - r : Nat) : Int) := by
    rw [full_xor hr, Nat.xor_comm]
    exact u32_xor_nat cFull r (by decide) hr
  clear hb hT
  go_enter Try.func12, Try.ntmps12
  go_wp2_with fail
  all_goals
    go_ret
    exact ⟨rfl, rfl⟩

theorem sumlen_any (w : World) (g r n : Nat) (h : Sm w g r n) :
    Calls Try.prog 14 #[.pointer (some ⟨g, 0, none⟩)] w fun e w' => e = .returned (.int .i64 (n : Int)) ∧ w = w' := by
  obtain ⟨T, hb, hT⟩ := h
  have hc : w.cell? ⟨g, 1, none⟩ = some (.int .i64 (n : Int)) := by rw [hb.cell, SumC_1]
  clear hb hT
  go_enter Try.func14, Try.ntmps14
  go_wp2_with fail
  go_ret
  exact ⟨rfl, rfl⟩

set_option maxRecDepth 100000 in
set_option maxHeartbeats 1000000 in
theorem add_any (w : World) (g r n : Nat) (h : Sm w g r n) (hr : r < 4294967296) (xs : List Nat) (m : Nat) (hl : xs.length = m) (hx : ∀ x ∈ xs, x < 256) (BB : Nat) (A : Option Addr) (c : Nat) (hrd : Reads w BB 1 A m (BS xs)) (hn : n + m ≤ 4611686018427387904) :
    Calls Try.prog 11 #[.pointer (some ⟨g, 0, none⟩), .slice A m c] w fun e w' => e = .returned (.tuple #[]) ∧ Sm w' g (regL r xs) (n + m) ∧ Fr (fun x => x = g) w w' := by
  obtain ⟨T, hb, hT⟩ := h
  have hc : w.cell? ⟨g, 0, none⟩ = some (.int .u32 (r : Int)) := by rw [hb.cell, SumC_0]
  have hc1 : w.cell? ⟨g, 1, none⟩ = some (.int .i64 (n : Int)) := by rw [hb.cell, SumC_1]
  have hf0 := hb.frozen 0
  have hf1 := hb.frozen 1
  have HB := Lib.hid hb
  have HT := Lib.hid hT
  have HRD := Lib.hid hrd
  have HL := Lib.hid hl
  have HX := Lib.hid hx
  have HR := Lib.hid hr
  clear hb hT hrd hl hx hr
  go_enter Try.func11, Try.ntmps11
  go_wp2_with fail
  go_loopw [4, 6, 13] (fun q u i wr => ∃ k d : Nat, k ≤ m ∧ i = .int .i64 (k : Int) ∧ q = .int .u32 ((regL r (xs.take k) : Nat) : Int) ∧ wr = w.drewN d) (fun _ _ i _ => m - (intOf i).toNat)
  case atStart => exact ⟨0, 0, by omega, rfl, rfl, rfl⟩
  case round =>
    obtain ⟨k, d, hk, rfl, rfl, rfl⟩ := hrel
    by_cases hlt : k < m
    · obtain ⟨ad, v, rfl, _, hu, hcell⟩ := HRD.out.at_ hlt
      have hkl : k < xs.length := by rw [HL.out]; exact hlt
      obtain ⟨x, hxe⟩ : ∃ x, x = xs[k] := ⟨_, rfl⟩
      have hv : v = .int .u8 (x : Int) := by
        simp only [BS, List.getElem?_map, List.getElem?_eq_getElem hkl, Option.map_some, Option.some.injEq] at hu
        rw [← hu, hxe]; rfl
      subst hv
      have hx256 : x < 256 := by rw [hxe]; exact HX.out _ (List.getElem_mem _)
      obtain ⟨q, hq⟩ : ∃ q, q = regL r (xs.take k) := ⟨_, rfl⟩
      have hq32 : q < 4294967296 := by rw [hq]; exact regL_lt HR.out _ (fun y hy => HX.out y (List.mem_of_mem_take hy))
      have hnx : regL r (xs.take (k + 1)) = byteIn q x := by
        rw [List.take_succ_eq_append_getElem hkl, regL_snoc, hq, hxe]
      rw [← hq]
      obtain ⟨j, hj⟩ : ∃ j, j = q % 256 ^^^ x := ⟨_, rfl⟩
      have hj256 : j < 256 := by rw [hj]; exact Nat.xor_lt_two_pow (n := 8) (by omega) (by omega)
      have e1 : bits .xor .u8 ((q : Int) % 256) (x : Int) = (j : Int) := by
        rw [show ((q : Int) % 256) = ((q % 256 : Nat) : Int) by omega, u8_xor_nat (q % 256) x (by omega) hx256, ← hj]
      have hcj : w.cell? ⟨g, 2 + j, none⟩ = some (.int .u32 ((stN 8 j : Nat) : Int)) := by rw [HB.out.cell, SumC_2, HT.out.2 j hj256]; rfl
      have l1 : stN 8 j < 4294967296 := stN_lt 8 (by omega)
      have e2 : bits .xor .u32 ((stN 8 j : Nat) : Int) ((q : Int) / 256) = ((byteIn q x : Nat) : Int) := by
        rw [show ((q : Int) / 256) = ((q / 256 : Nat) : Int) by omega, u32_xor_nat (stN 8 j) (q / 256) l1 (by omega), byteIn_table q x hx256, hj]
      have HQ := Lib.hid hq
      have HNX := Lib.hid hnx
      have HJ := Lib.hid hj
      have HXE := Lib.hid hxe
      clear hq hnx hj hxe hu l1
      go_wp2_with fail
      exact ⟨⟨k + 1, d, by omega, by go_num, by rw [HNX.out], rfl⟩, by simp [intOf]; omega⟩
    · obtain rfl : k = m := by omega
      have hall : xs.take k = xs := List.take_of_length_le (by rw [HL.out]; omega)
      rw [hall]
      clear hall
      go_wp2_with fail
      go_end0
      refine ⟨rfl, ⟨T, ?_, HT.out⟩, ((Fr.refl (fun x => x = g) w).drewN d |>.setCell (.inl rfl) _).setCell (.inl rfl) _⟩
      have h1 := (HB.out.drewN d).set_ 0 (.int .u32 ((regL r xs : Nat) : Int))
      rw [SumC_set0] at h1
      have h2 := h1.set_ 1 (.int .i64 ((n + k : Nat) : Int))
      rw [SumC_set1] at h2
      exact h2
end Go.Proofs.Ytjhgegoipnjgmaa
