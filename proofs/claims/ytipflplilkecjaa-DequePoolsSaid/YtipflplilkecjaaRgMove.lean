
/-
  Move: from one ring to another one.
-/
import Derived.Test.YtipflplilkecjaaRgI
import Derived.LaidEqlPtr
set_option linter.unusedVariables false
set_option linter.unusedSimpArgs false
namespace Go.Proofs.Ytipflplilkecjaa
open Go.RowKit Plain

theorem size_ring : (Try.prog.info? 90).map (·.size) = some 3 := by kernel_rfl
set_option maxHeartbeats 4000000 in
theorem move_any (g s room first g2 s2 room2 first2 : Nat) (l l2 : List Int) (w : World) (h : RgI w g s room first l) (h2 : RgI w g2 s2 room2 first2 l2) (d1 : g ≠ g2) (d2 : g ≠ s2) (d3 : s ≠ g2) (d4 : s ≠ s2) (N : Nat) (hN : N = min l.length (room2 - l2.length)) :
    Calls Try.prog 68 #[.pointer (some ⟨g, 0, none⟩), .pointer (some ⟨g2, 0, none⟩)] w fun e w' => ∃ f f2, e = .returned (.int .i64 (N : Int)) ∧ RgI w' g s room f (l.drop N) ∧ RgI w' g2 s2 room2 f2 (l2 ++ l.take N) ∧ Fr (fun i => (i = g ∨ i = s) ∨ (i = g2 ∨ i = s2)) w w' := by
  have hl1 := h.len
  have hl2 := h2.len
  have hr1 := h.hi
  have hr2 := h2.hi
  have hptr : (binOp .eql 77 (.pointer (some ⟨g, 0, none⟩)) (.pointer (some ⟨g2, 0, none⟩))).run Try.prog w = .ok (.bool false) w := by
    obtain ⟨j, hj, hjs⟩ := Option.map_eq_some_iff.1 size_ring
    exact run_eql_ptr_other w Try.underlying77 hj (by omega) (fun e => d1 (by injection e)) h.box h2.box
  have H := Lib.hid h; have H2 := Lib.hid h2
  clear h h2
  have hne : ¬ g = g2 := d1
  have hmin : ∀ W, (Builtin.min_ #[3, 3] 3 #[.int .i64 (l.length : Int), .int .i64 ((room2 - l2.length : Nat) : Int)]).run Try.prog W = .ok (.int .i64 (N : Int)) W := by
    intro W
    rw [run_min_int2, show (if ((room2 - l2.length : Nat) : Int) < (l.length : Int) then ((room2 - l2.length : Nat) : Int) else (l.length : Int)) = (N : Int) by split <;> omega]
  have hN1 : N ≤ l.length := by omega
  have hN2 : N + l2.length ≤ room2 := by omega
  clear hN
  go_enter Try.func68, Try.ntmps68
  go_wp2_with fail
  refine (len_anyI g s room first l _ H.out).mono ?_
  rintro e w' ⟨rfl, rfl⟩
  go_wp2_with fail
  refine (room_anyI g2 s2 room2 first2 l2 _ H2.out).mono ?_
  rintro e w' ⟨rfl, n1, rfl⟩
  have hq := H.out.drewN n1; have hq2 := H2.out.drewN n1
  have hf0 := (Fr.refl (fun i => (i = g ∨ i = s) ∨ (i = g2 ∨ i = s2)) w).drewN n1
  have HQ := Lib.hid hq; have HQ2 := Lib.hid hq2; have HF := Lib.hid hf0
  clear hq hq2 hf0 H H2
  go_wp2_with fail
  clear hmin hptr
  go_loopw [25] (fun s25 wr => ∃ k f f2 : Nat, k ≤ N ∧ s25 = .int .i64 (k : Int) ∧ RgI wr g s room f (l.drop k) ∧ RgI wr g2 s2 room2 f2 (l2 ++ l.take k) ∧ Fr (fun i => (i = g ∨ i = s) ∨ (i = g2 ∨ i = s2)) w wr) (fun s25 _ => N - (intOf s25).toNat)
  case atStart => exact ⟨0, first, first2, by omega, rfl, HQ.out, by simpa using HQ2.out, HF.out⟩
  case round =>
    clear HQ HQ2 HF
    obtain ⟨k, f, f2, hk, rfl, hq, hq2, hf⟩ := hrel
    by_cases hlt : k < N
    · have hkl : k < l.length := by omega
      have hx : l[k]? = some l[k] := List.getElem?_eq_getElem hkl
      rw [List.drop_eq_getElem_cons hkl] at hq
      have hln : (l2 ++ l.take k).length < room2 := by simp; omega
      have htk : (l2 ++ l.take k) ++ [l[k]] = l2 ++ l.take (k + 1) := by rw [List.take_add_one, hx]; simp
      generalize l[k] = x at *
      have HQ := Lib.hid hq; have HQ2 := Lib.hid hq2; have HF := Lib.hid hf; have HT := Lib.hid htk; have HLN := Lib.hid hln
      clear hq hq2 hf hx htk hln
      go_wp2_with fail
      refine (pop_yesI g s room f _ _ x HQ.out).mono ?_
      rintro e w2 ⟨rfl, hq, hf⟩
      have hq2 := HQ2.out.fr hf (by omega) (by omega)
      have hf2 := HF.out.trans hf (fun i _ h => .inl h)
      have HQ3 := Lib.hid hq; have HQ4 := Lib.hid hq2; have HF3 := Lib.hid hf2
      clear hq hf hq2 hf2 HQ HQ2 HF
      go_wp2_with fail
      refine (push_yesI g2 s2 room2 f2 _ _ HQ4.out x HLN.out).mono ?_
      rintro e w3 ⟨rfl, hq, hf⟩
      have hq2 := HQ3.out.fr hf (by omega) (by omega)
      have hf2 := HF3.out.trans hf (fun i _ h => .inr h)
      rw [HT.out] at hq
      have HQ5 := Lib.hid hq; have HQ6 := Lib.hid hq2; have HF4 := Lib.hid hf2
      clear hq hf hq2 hf2 HQ3 HQ4 HF3
      go_wp2_with fail
      exact ⟨⟨k + 1, _, _, by omega, by go_num, HQ6.out, HQ5.out, HF4.out⟩, by simp [intOf]; omega⟩
    · obtain rfl : k = N := by omega
      have HQ := Lib.hid hq; have HQ2 := Lib.hid hq2; have HF := Lib.hid hf
      clear hq hq2 hf
      go_wp2_with fail
      go_ret
      exact ⟨_, _, rfl, HQ.out, HQ2.out, HF.out⟩
end Go.Proofs.Ytipflplilkecjaa
