/-
  Seals: bytes, and their sum behind them, as the program and as the document lay them.
-/
import Derived.Test.YtjhgegoipnjgmaaCrcOf
import Derived.Test.YtjhgegoipnjgmaaPure
namespace Go.Proofs.Ytjhgegoipnjgmaa
open Go.RowKit Plain

/-- Bytes, and their sum behind them. -/
def sealL (xs : List Nat) : List Nat := xs ++ fixedL (crcL xs) 4
theorem sealL_length (xs : List Nat) : (sealL xs).length = xs.length + 4 := by simp [sealL, fixedL_length]

theorem make_bytes (m : Nat) (hm : m ≤ 1000000) : ∃ Z : Array Value, Z.size = m ∧ ∀ W : World, (Instr.makeSlice 22 (.int .i64 0) (.int .i64 (m : Int))).run Try.prog W = .ok (.slice (some ⟨W.heap.size, 0, none⟩) 0 m) (W.alloc (.cells Z 5)) := by
  obtain ⟨i0, hi0, hz0, hz1, hz2⟩ := info_parts info_byte
  refine ⟨madeCells #[.int .u8 0] m, size_madeCells _ _, fun W => ?_⟩
  have := run_make (P := Try.prog) W 22 5 i0 _ Try.underlying22 hi0 hz0 .i64 .i64 0 m (by omega) (by omega) (by rw [hz2]; omega) (by omega)
  rw [hz1] at this
  simpa [Value.cells] using this

def SealRel (w : World) (s : Nat) (xs : List Nat) (m k : Nat) (o : Value) (wr : World) : Prop :=
  ∃ A c, o = .slice A (m + k) c ∧ wr.ownsRow w.heap.size 5 1 (.slice A (m + k) c) (m + k) (BS (xs ++ fixedL s k)) ∧ Below w.heap.size w wr

set_option maxRecDepth 100000 in
set_option maxHeartbeats 1000000 in
theorem seal_any (w : World) (xs : List Nat) (m : Nat) (hl : xs.length = m) (hx : ∀ x ∈ xs, x < 256) (BB : Nat) (A : Option Addr) (c : Nat) (hrd : Reads w BB 1 A m (BS xs)) (hB : BB ≤ w.heap.size) (hn : m ≤ 65536) :
    Calls Try.prog 18 #[.slice A m c] w fun e w' => ∃ A' c', e = .returned (.slice A' (m + 4) c') ∧ Made w.heap.size (sealL xs) (.slice A' (m + 4) c') w w' := by
  obtain ⟨i0, hi0, hz0, hz1, hz2⟩ := info_parts info_byte
  obtain ⟨Z, hZ, hmk⟩ := make_bytes (m + 4) (by omega)
  rw [show (((m + 4 : Nat)) : Int) = (m : Int) + 4 by omega] at hmk
  have HRD := Lib.hid hrd
  have HL := Lib.hid hl
  have HX := Lib.hid hx
  have HZ := Lib.hid hZ
  clear hrd hl hx hZ
  go_enter Try.func18, Try.ntmps18
  go_wp2_with fail
  refine (of_any w xs m HL.out HX.out BB A c HRD.out hB (by omega)).mono ?_
  rintro e w1 ⟨rfl, hb1⟩
  have z1 := hb1.size
  have hrd1 := HRD.out.keep (w' := w1) fun p hp => hb1.cell (by omega)
  have hs : crcL xs < 4294967296 := crcL_lt xs
  obtain ⟨s, hse⟩ : ∃ s, s = crcL xs := ⟨_, rfl⟩
  rw [← hse] at hs ⊢
  have HB1 := Lib.hid hb1
  have HRD1 := Lib.hid hrd1
  have HS := Lib.hid hse
  have hown0 := World.ownsRow_made (base := w.heap.size) (e := 5) (size := 1) w1 Z (m + 4) z1 (by unfold maxLen; omega) (by rw [HZ.out]; omega)
  have HO := Lib.hid hown0
  clear hb1 hrd1 hse hown0
  go_wp2_with (at_builtin; go_must (refine wpList_append_any _ rfl (.tmp 12) (.tmp 13) _ rfl w.heap.size 5 i0 _ 1 1 Try.underlying22 hi0 hz0 hz1 hz2 rfl (by decide) (.slice (some ⟨w1.heap.size, 0, none⟩) 0 (m + 4)) 0 [] rfl HO.out BB A m c (BS xs) rfl (HRD1.out.alloc (by omega) _) (BS_one _) ?c1 ?c2 ?c3 ?k))
  case c1 => unfold maxLen; omega
  case c2 => omega
  case c3 => simp; omega
  case k =>
  intro v' w2 hown2 hg2 hat2
  obtain ⟨A', c', rfl, _⟩ := reads_own hown2
  have hrel0 : SealRel w s xs m 0 (.slice A' m c') w2 := by
    refine ⟨A', c', rfl, ?_, (HB1.out.alloc z1 _).grown hg2 (by simp; omega) (fun k hk => (HO.out.lt k hk).1)⟩
    rw [fixedL, List.append_nil]
    exact hown2
  have HR0 := Lib.hid hrel0
  clear hown2 hg2 hat2 hrel0
  go_wp2_with fail
  go_loopw [4, 5, 15] (fun o u i wr => ∃ k : Nat, k ≤ 4 ∧ i = .int .i64 (k : Int) ∧ SealRel w s xs m k o wr) (fun _ _ i _ => 4 - (intOf i).toNat)
  case atStart => exact ⟨0, by omega, rfl, HR0.out⟩
  case round =>
    obtain ⟨k, hk, rfl, A1, c1, rfl, hown, hbel⟩ := hrel
    have zr := hbel.size
    have HO1 := Lib.hid hown
    have HBE := Lib.hid hbel
    clear hown hbel
    by_cases hlt : k < 4
    · obtain ⟨b, hb⟩ : ∃ b, b = s / 256 ^ k % 256 := ⟨_, rfl⟩
      have eb : (s : Int) / 2 ^ (8 * k) % 256 = (b : Int) := by
        rw [hb, show (2 : Int) ^ (8 * k) = ((2 ^ (8 * k) : Nat) : Int) by simp, pow8]
        omega
      have HBb := Lib.hid hb
      clear hb
      go_wp2_with (at_builtin; go_must (refine wpList_append_any _ rfl (.tmp 18) (.tmp 24) _ rfl w.heap.size 5 i0 _ 1 1 Try.underlying22 hi0 hz0 hz1 hz2 rfl (by decide) (.slice A1 (m + k) c1) (m + k) (BS (xs ++ fixedL s k)) rfl (HO1.out.alloc _) (wr.heap.size + 1) (some ⟨wr.heap.size, 0, none⟩) 1 1 (BS [b]) rfl (reads_one wr b _) (BS_one _) ?c1 ?c2 ?c3 ?k))
      case c1 => unfold maxLen; omega
      case c2 => omega
      case c3 => simp; omega
      case k =>
      intro v' w3 hown3 hg3 _
      obtain ⟨A3, c3, rfl, _⟩ := reads_own hown3
      have HO3 := Lib.hid hown3
      have HG3 := Lib.hid hg3
      clear hown3 hg3
      go_wp2_with fail
      refine ⟨⟨k + 1, by omega, by go_num, A3, c3, rfl, ?_, (HBE.out.alloc zr _).grown HG3.out (by simp; omega) (fun k hk => (HO1.out.lt k hk).1)⟩, by simp [intOf]; omega⟩
      have := HO3.out
      rw [BS_append, List.append_assoc, HBb.out, ← fixedL_snoc] at this
      exact this
    · obtain rfl : k = 4 := by omega
      go_wp2_with fail
      go_ret
      refine ⟨A1, c1, rfl, ?_, HBE.out⟩
      rw [sealL_length, sealL, ← HS.out, HL.out]
      exact HO1.out

def RefSealRel (w : World) (s : Nat) (xs : List Nat) (m k : Nat) (o q : Value) (wr : World) : Prop :=
  ∃ A c pre n, o = .slice A (m + k) c ∧ q = .int .u32 ((n : Nat) : Int) ∧ n ≤ 4294967295 ∧ pre.length = k ∧ pre ++ fixedL n (4 - k) = fixedL s 4 ∧ wr.ownsRow w.heap.size 5 1 (.slice A (m + k) c) (m + k) (BS (xs ++ pre)) ∧ Below w.heap.size w wr

set_option maxRecDepth 100000 in
set_option maxHeartbeats 1000000 in
theorem ref_seal (w : World) (xs : List Nat) (m : Nat) (hl : xs.length = m) (hx : ∀ x ∈ xs, x < 256) (BB : Nat) (A : Option Addr) (c : Nat) (hrd : Reads w BB 1 A m (BS xs)) (hB : BB ≤ w.heap.size) (hn : m ≤ 65536) :
    Calls Try.prog 22 #[.slice A m c] w fun e w' => ∃ A' c', e = .returned (.slice A' (m + 4) c') ∧ Made w.heap.size (sealL xs) (.slice A' (m + 4) c') w w' := by
  obtain ⟨i0, hi0, hz0, hz1, hz2⟩ := info_parts info_byte
  have HRD := Lib.hid hrd
  have HL := Lib.hid hl
  have HX := Lib.hid hx
  clear hrd hl hx
  go_enter Try.func22, Try.ntmps22
  go_wp2_with (at_builtin; go_must (refine wpList_append_any _ rfl (.tmp 6) (.tmp 7) _ rfl w.heap.size 5 i0 _ 1 1 Try.underlying22 hi0 hz0 hz1 hz2 rfl (by decide) (.slice none 0 0) 0 [] rfl (World.ownsRow_nil _ _ _ _) BB A m c (BS xs) rfl HRD.out (BS_one _) ?c1 ?c2 (Nat.le_refl _) ?k))
  case c1 => unfold maxLen; omega
  case c2 => omega
  case k =>
  intro v' w2 hown2 hg2 hat2
  obtain ⟨A', c', rfl, _⟩ := reads_own hown2
  have hbel : Below w.heap.size w w2 := (Below.refl _ w).grown hg2 (Nat.le_refl _) (by simp [Value.ownBlock])
  have z2 := hbel.size
  have hrd2 := HRD.out.keep (w' := w2) fun p hp => hbel.cell (by omega)
  have HO2 := Lib.hid hown2
  have HRD2 := Lib.hid hrd2
  have HB2 := Lib.hid hbel
  clear hown2 hg2 hat2 hrd2 hbel
  go_wp2_with fail
  refine (ref_of w2 xs m HL.out HX.out BB A c HRD2.out (by omega)).mono ?_
  rintro e w3 ⟨rfl, rfl⟩
  have hs : crcL xs < 4294967296 := crcL_lt xs
  obtain ⟨s, hse⟩ : ∃ s, s = crcL xs := ⟨_, rfl⟩
  rw [← hse] at hs ⊢
  have HS := Lib.hid hse
  clear hse
  have hrel0 : RefSealRel w s xs m 0 (.slice A' m c') (.int .u32 ((s : Nat) : Int)) w2 := ⟨A', c', [], s, rfl, rfl, by omega, rfl, rfl, by rw [List.append_nil]; simpa using HO2.out, HB2.out⟩
  have HR0 := Lib.hid hrel0
  clear hrel0
  go_wp2_with fail
  go_outline
  go_loopw [3, 4, 5] (fun o q i wr => ∃ k : Nat, k ≤ 4 ∧ i = .int .i64 (k : Int) ∧ RefSealRel w s xs m k o q wr) (fun _ _ i _ => 4 - (intOf i).toNat)
  case atStart => exact ⟨0, by omega, rfl, HR0.out⟩
  case round =>
    obtain ⟨k, hk, rfl, A1, c1, pre, n, rfl, rfl, hn4, hpl, hpre, hown, hbel⟩ := hrel
    have zr := hbel.size
    have HO1 := Lib.hid hown
    have HBE := Lib.hid hbel
    have HPL := Lib.hid hpl
    have HPR := Lib.hid hpre
    clear hown hbel hpl hpre
    by_cases hlt : k < 4
    · obtain ⟨b, hb⟩ : ∃ b, b = n % 256 := ⟨_, rfl⟩
      have eb : (n : Int) % 256 = (b : Int) := by omega
      have hb256 : b < 256 := by omega
      have HBb := Lib.hid hb
      clear hb
      go_wp2_with (at_builtin; go_must (refine wpList_append_any _ rfl (.tmp 15) (.tmp 19) _ rfl w.heap.size 5 i0 _ 1 1 Try.underlying22 hi0 hz0 hz1 hz2 rfl (by decide) (.slice A1 (m + k) c1) (m + k) (BS (xs ++ pre)) rfl (HO1.out.alloc _) (wr.heap.size + 1) (some ⟨wr.heap.size, 0, none⟩) 1 1 (BS [b]) rfl (reads_one wr b _) (BS_one _) ?c1 ?c2 ?c3 ?k))
      case c1 => unfold maxLen; omega
      case c2 => omega
      case c3 => simp; omega
      case k =>
      intro v' w3 hown3 hg3 _
      obtain ⟨A3, c3, rfl, _⟩ := reads_own hown3
      have HO3 := Lib.hid hown3
      have HG3 := Lib.hid hg3
      clear hown3 hg3
      go_wp2_with fail
      refine ⟨⟨k + 1, by omega, by go_num, A3, c3, pre ++ [b], n / 256, rfl, by go_num, by omega, by simp [HPL.out], ?_, ?_, (HBE.out.alloc zr _).grown HG3.out (by simp; omega) (fun k hk => (HO1.out.lt k hk).1)⟩, by simp [intOf]; omega⟩
      · rw [← HPR.out, show 4 - k = (4 - (k + 1)) + 1 by omega, HBb.out]
        simp [fixedL]
      · have := HO3.out
        rw [BS_append, List.append_assoc] at this
        exact this
    · obtain rfl : k = 4 := by omega
      have hpe : pre = fixedL s 4 := by
        have := HPR.out
        rw [Nat.sub_self] at this
        simpa [fixedL] using this
      have HPE := Lib.hid hpe
      clear hpe
      go_wp2_with fail
      go_ret
      refine ⟨A1, c1, rfl, ?_, HBE.out⟩
      rw [sealL_length, sealL, ← HS.out, HL.out, ← HPE.out]
      exact HO1.out
end Go.Proofs.Ytjhgegoipnjgmaa
