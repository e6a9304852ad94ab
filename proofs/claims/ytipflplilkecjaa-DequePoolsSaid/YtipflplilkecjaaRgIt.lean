
/-
  The function that tells all of a ring's things, as what a range over it asks.
-/
import Derived.Test.YtipflplilkecjaaRgAll
set_option linter.unusedVariables false
set_option linter.unusedSimpArgs false
namespace Go.Proofs.Ytipflplilkecjaa
open Go.RowKit Go.Shelf Plain
attribute [local go_sem] Oper.semAt_some

/-- The blocks of D are kept. -/
def KpD (D : Nat → Prop) (W W' : World) : Prop := ∀ i, D i → W'.heap[i]? = W.heap[i]?
theorem KpD.trans {D : Nat → Prop} {A B C : World} (h : KpD D A B) (k : KpD D B C) : KpD D A C := fun i hi => (k i hi).trans (h i hi)
theorem KpD.refl (D : Nat → Prop) (A : World) : KpD D A A := fun _ _ => rfl
theorem KpD.of_fr {D S : Nat → Prop} {A B : World} (h : Fr S A B) (hD : ∀ i, D i → i < A.heap.size ∧ ¬ S i) : KpD D A B := fun i hi => h.block i (hD i hi).1 (hD i hi).2
namespace Plain
/-- What has come when k rounds are over. -/
def uptoZ (zs : List Int) (k : Nat) : List (Nat × Int) := (List.range k).map fun j => (j, zs[j]?.getD 0)
theorem uptoZ_succ (zs : List Int) (k : Nat) : uptoZ zs (k + 1) = uptoZ zs k ++ [(k, zs[k]?.getD 0)] := by simp [uptoZ, List.range_succ]
theorem uptoZ_length (zs : List Int) (k : Nat) : (uptoZ zs k).length = k := by simp [uptoZ]
theorem uptoZ_at (zs : List Int) {k j : Nat} (h : j < k) : (uptoZ zs k)[j]? = some (j, zs[j]?.getD 0) := by simp [uptoZ, h]
end Plain

set_option maxRecDepth 100000 in
set_option maxHeartbeats 2000000 in
theorem tells_in (F : Fence) (n : Nat) (hF : F.fn 58) (hro : F.round = none) (hn : 1 ≤ n) (l bx b len : Nat) (zs : List Int) (hlen : zs.length = len) (hreach : len * 8 ≤ 140737488351232) (D : Nat → Prop) (hD : D b) (J Jx : List (Nat × Int) → World → Prop)
    (hY : ∀ pre x W, J pre W → pre.length < len → YieldAt F (n - 1) Try.prog l #[.int .i64 (x.1 : Int), .int .i64 x.2] W fun e W' =>
      (e = .returned (.bool true) ∧ J (pre ++ [x]) W' ∧ KpD D W W') ∨ (e = .returned (.bool false) ∧ Jx (pre ++ [x]) W'))
    (W : World) (hBs : W.cell? ⟨bx, 0, none⟩ = some (.slice (some ⟨b, 0, none⟩) len len)) (hb : Blk W b 3 (zs.map EnI).toArray) (h0 : J [] W) :
    CallsIn F n Try.prog 58 #[.func (.yield l) #[] #[], .pointer (some ⟨bx, 0, none⟩)] W fun e W' => (∃ v, e = .returned v) ∧
      ((∃ ys, ys = uptoZ zs len ∧ J ys W') ∨ (∃ pre, (∃ k, k ≤ len ∧ pre = uptoZ zs k) ∧ Jx pre W')) := by
  refine callsIn_of_wp Try.func58 rfl hF ?_ hro
  simp only [Try.ntmps58, List.size_toArray, List.length_cons, List.length_nil, Nat.reduceAdd, Nat.reduceSub, Array.replicate_succ, Array.replicate_zero, List.push_toArray, List.append_toArray, List.nil_append, List.cons_append]
  have HLEN := Lib.hid hlen; have HBLK := Lib.hid hb
  clear hlen hb
  gi_wp2
  gi_loopw [7] (fun i wr => ∃ k : Nat, k ≤ len ∧ i = .int .i64 k ∧ J (uptoZ zs k) wr ∧ KpD D W wr)
    (fun i _ => len - (intOf i).toNat)
  case atStart => exact ⟨0, Nat.zero_le _, rfl, h0, KpD.refl _ _⟩
  case round =>
    obtain ⟨k, hk, rfl, hJs, hnx⟩ := hrel
    by_cases hlt : k < len
    · have hblk : Blk wr b 3 (zs.map EnI).toArray := (hnx b hD).trans HBLK.out
      have hcx' : wr.cell? ⟨b, k, none⟩ = some (.int .i64 (zs[k]?.getD 0)) := by
        rw [hblk.cell]
        have := HLEN.out
        simp [show k < zs.length by omega]
      clear hblk
      obtain ⟨fn, tmps, assign, body, hy, hR⟩ := hY _ (k, zs[k]?.getD 0) wr hJs (by rw [uptoZ_length]; exact hlt)
      dsimp only at hy
      gi_wp2
      refine hR.mono ?_
      rintro e W3 (⟨rfl, hJ3, hk3⟩ | ⟨rfl, hJx3⟩)
      · gi_wp2
        go_roundw
        case rel => exact ⟨k + 1, by omega, by simp, by rw [uptoZ_succ]; exact hJ3, hnx.trans hk3⟩
        case measure => simp [intOf]; omega
      · gi_wp2
        refine bodyPost_ret (results_none rfl _ _ _) rfl ?_
        exact ⟨⟨_, rfl⟩, .inr ⟨_, ⟨k + 1, by omega, (uptoZ_succ _ _).symm⟩, hJx3⟩⟩
    · obtain rfl : k = len := by omega
      gi_wp2
      go_end0
      exact ⟨⟨_, rfl⟩, .inl ⟨_, rfl, hJs⟩⟩

/-- All of a ring, as it was told. -/
theorem tells_stops (F : Fence) (n : Nat) (hF : F.fn 58) (hro : F.round = none) (hn : 1 ≤ n) (bx b : Nat) (zs : List Int) (hreach : zs.length * 8 ≤ 140737488351232) (w : World) (D : Nat → Prop) (hD : D b)
    (hbx : Blk w bx 26 #[.slice (some ⟨b, 0, none⟩) zs.length zs.length]) (hb : Blk w b 3 (zs.map EnI).toArray) :
    SeqStopsK F n Try.prog 58 #[.pointer (some ⟨bx, 0, none⟩)] (fun x : Nat × Int => #[Value.int .i64 (x.1 : Int), Value.int .i64 x.2]) (KpD D) (fun ys => ys = uptoZ zs zs.length)
      (fun pre => ∃ k, k ≤ zs.length ∧ pre = uptoZ zs k) zs.length w := fun l J Jx W hW _ _ hY h0 =>
  tells_in F n hF hro hn l bx b zs.length zs rfl hreach D hD J Jx hY W ((hbx.below hW hbx.lt).cell 0) (hb.below hW hb.lt) h0
end Go.Proofs.Ytipflplilkecjaa
