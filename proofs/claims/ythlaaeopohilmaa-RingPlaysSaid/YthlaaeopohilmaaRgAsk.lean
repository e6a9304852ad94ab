/-
  What a deed asks of each thing that may be cut.
-/
import Derived.Test.YthlaaeopohilmaaRgDoC
import Derived.Test.YthlaaeopohilmaaRgCut
import Derived.Test.YthlaaeopohilmaaRgDeed
set_option linter.unusedVariables false
set_option linter.unusedSimpArgs false
namespace Go.Proofs.Ythlaaeopohilmaa
open Go.RowKit Plain

theorem RX.keep {w w' : World} {D : Nat → Prop} {A : Option Addr} {c : Nat} {L : List Int} (h : RX w D A c L) (hk : ∀ i, D i → i < w.heap.size → w'.heap[i]? = w.heap[i]?) : RX w' D A c L := by
  refine ⟨h.1, fun hn => ?_⟩
  obtain ⟨ad, e, hd, hb, hc⟩ := h.2 hn
  have h1 := hk _ hd hb
  refine ⟨ad, e, hd, ?_, fun j x hj => (World.cell?_of_block (by rw [block_of_add]; exact h1)).trans (hc j x hj)⟩
  rcases Nat.lt_or_ge ad.block w'.heap.size with h2 | h2
  · exact h2
  · rw [Array.getElem?_eq_none h2, Array.getElem?_eq_getElem hb] at h1
    cases h1

/-- Where the closure of Cut's deed stands, when it was asked of pre. -/
structure AskI (bS bA bX bK room : Nat) (D : Nat → Prop) (A : Option Addr) (c : Nat) (L : List Int) (k : Int) (pre : List Int) (W : World) : Prop where
  a : Blk W bA 3 #[.int .i64 (pre.length : Int)]
  s : ∃ b, Blk W bS 4 #[.bool b] ∧ (pre = L.take pre.length → b = true)
  x : Blk W bX 27 #[.int .i64 (room : Int), .slice A L.length c]
  k : Blk W bK 3 #[.int .i64 k]
  rx : RX W D A c L

set_option maxHeartbeats 4000000 in
theorem ask_any (bS bA bX bK room : Nat) (D : Nat → Prop) (A : Option Addr) (c : Nat) (L : List Int) (k : Int) (pre : List Int) (x : Int) (W : World) (h : AskI bS bA bX bK room D A c L k pre W) (hlen : pre.length < L.length) (hL : L.length ≤ 1024)
    (h1 : bS ≠ bA) (h2 : bS ≠ bX) (h3 : bS ≠ bK) (h4 : bA ≠ bX) (h5 : bA ≠ bK) (hDS : ¬ D bS) (hDA : ¬ D bA) :
    Calls Try.prog 31 #[.int .i64 x, .pointer (some ⟨bS, 0, none⟩), .pointer (some ⟨bA, 0, none⟩), .pointer (some ⟨bX, 0, none⟩), .pointer (some ⟨bK, 0, none⟩)] W fun e W' => e = .returned (.bool (cutB k x)) ∧ AskI bS bA bX bK room D A c L k (pre ++ [x]) W' ∧ Fr (fun i => i = bS ∨ i = bA) W W' := by
  obtain ⟨ha, ⟨sm, hs, hsm⟩, hx, hk, hrx⟩ := h
  obtain ⟨ad, y, rfl, hab, hy, hcy⟩ := hrx.reads.num hlen
  have a0 : W.cell? ⟨bA, 0, none⟩ = some (.int .i64 (pre.length : Int)) := (ha.cell 0).trans rfl
  have az : W.frozen? ⟨bA, 0, none⟩ = false := ha.frozen 0
  have s0 : W.cell? ⟨bS, 0, none⟩ = some (.bool sm) := (hs.cell 0).trans rfl
  have sz : W.frozen? ⟨bS, 0, none⟩ = false := hs.frozen 0
  have x1 : W.cell? ⟨bX, 1, none⟩ = some (.slice (some ad) L.length c) := (hx.cell 1).trans rfl
  have k0 : W.cell? ⟨bK, 0, none⟩ = some (.int .i64 k) := (hk.cell 0).trans rfl
  have q1 : ¬ bS = bA := h1
  have q2 : ¬ bA = bS := fun e => h1 e.symm
  have q3 : ¬ bX = bS := fun e => h2 e.symm
  have q4 : ¬ bX = bA := fun e => h4 e.symm
  have q5 : ¬ bK = bS := fun e => h3 e.symm
  have q6 : ¬ bK = bA := fun e => h5 e.symm
  have hm := tmod3 x
  obtain ⟨hm1, hm2⟩ := hm
  have hi1 : (pre.length : Int) < (L.length : Int) := by omega
  have hi2 : ¬ ((L.length : Int) - 1 < (pre.length : Int)) := by omega
  have hw : IntKind.i64.wrap ((pre.length : Int) + 1) = (pre.length : Int) + 1 := IntWalk.i64_in _ (by omega)
  have hfin : ∀ sm' : Bool, (pre ++ [x] = L.take (pre ++ [x]).length → sm' = true) → ∀ W', W' = ((W.setCell ⟨bS, 0, none⟩ (.bool sm')).setCell ⟨bA, 0, none⟩ (.int .i64 ((pre.length : Int) + 1))) → AskI bS bA bX bK room D (some ad) c L k (pre ++ [x]) W' ∧ Fr (fun i => i = bS ∨ i = bA) W W' := by
    rintro sm' hsm' _ rfl
    have hf := ((Fr.refl (fun i => i = bS ∨ i = bA) W).setCell (p := ⟨bS, 0, none⟩) (.inl (.inl rfl)) (.bool sm')).setCell (p := ⟨bA, 0, none⟩) (.inl (.inr rfl)) (.int .i64 ((pre.length : Int) + 1))
    refine ⟨⟨?_, ⟨sm', ?_, hsm'⟩, hf.blk hx (by omega), hf.blk hk (by omega), hrx.fr hf (fun i hi _ h => ?_)⟩, hf⟩
    · have := (ha.far (p := ⟨bS, 0, none⟩) q2 (.bool sm')).set_ 0 (.int .i64 ((pre.length : Int) + 1))
      simpa using this
    · have := (hs.set_ 0 (.bool sm')).far (p := ⟨bA, 0, none⟩) q1 (.int .i64 ((pre.length : Int) + 1))
      simpa using this
    · rcases h with h | h
      · exact hDS (h ▸ hi)
      · exact hDA (h ▸ hi)
  have hpre : pre ++ [x] = L.take (pre ++ [x]).length → pre = L.take pre.length ∧ x = y := by
    intro e
    have e2 : L.take (pre ++ [x]).length = L.take pre.length ++ [y] := by
      rw [show (pre ++ [x]).length = pre.length + 1 by simp, List.take_add_one, hy]; rfl
    rw [e2] at e
    obtain ⟨e3, e4⟩ := List.append_inj' e rfl
    exact ⟨e3, by simpa using e4⟩
  have hcb : cutB k x = (x.tmod 3 % 3 == k) := by unfold cutB modV; rw [Int.add_emod_right]
  have HF := Lib.hid hfin; have HP := Lib.hid hpre; have HSM := Lib.hid hsm; have HCB := Lib.hid hcb
  clear hfin hpre hsm ha hs hx hk hrx hcb hy
  cases sm with
  | false =>
    go_enter Try.func31, Try.ntmps31
    go_wp2_with fail
    go_ret
    refine ⟨by rw [HCB.out]; rfl, HF.out false (fun e => ?_) _ rfl⟩
    exact absurd (HSM.out (HP.out e).1) (by simp)
  | true =>
    by_cases hxy : x = y
    · subst hxy
      go_enter Try.func31, Try.ntmps31
      go_wp2_with fail
      go_ret
      exact ⟨by rw [HCB.out]; rfl, HF.out true (fun _ => rfl) _ rfl⟩
    · have hb : (x == y) = false := by simpa using hxy
      go_enter Try.func31, Try.ntmps31
      go_wp2_with fail
      go_ret
      exact ⟨by rw [HCB.out]; rfl, HF.out false (fun e => absurd (HP.out e).2 hxy) _ rfl⟩
end Go.Proofs.Ythlaaeopohilmaa
