
/-
  What a Writer's Short puts: the short number's bytes, behind all that are there.
-/
import Derived.Test.YtmjbfobjndiecaaRaw
import Derived.Test.YtmjbfobjndiecaaBits
import Derived.Deep.DeepFit
namespace Go.Proofs.Ytmjbfobjndiecaa
open Go.RowKit Plain

theorem Wr.alloc {w : World} {base g : Nat} {v : Value} {bs : List Nat} (h : Wr w base g v bs) (o : Obj) : Wr (w.alloc o) base g v bs := ⟨h.1.alloc o, h.2.alloc o⟩

/-- Raw of one byte that was just laid. -/
theorem raw_one (base g : Nat) (v : Value) (bs : List Nat) (x : Int) (w : World) (hW : Wr w base g v bs) (h0 : 0 ≤ x) (hn : bs.length + 1 ≤ 140737488355328) (hbase : base ≤ w.heap.size) :
    Calls Try.prog 69 #[.pointer (some ⟨g, 0, none⟩), .slice (some ⟨w.heap.size, 0, none⟩) 1 1] (w.alloc (.cells #[.int .u8 x] 5))
      fun e w' => e = .returned (.tuple #[]) ∧ WStep base g v (bs ++ [x.toNat]) w w' := by
  obtain ⟨y, rfl⟩ := Int.eq_ofNat_of_zero_le h0
  refine (raw_any base g v bs [y] _ (hW.alloc _) _ _ 1 (reads_one w y _) hn (by simp; omega)).mono ?_
  rintro e w' ⟨rfl, v', h1, h2, h3⟩
  refine ⟨rfl, v', h1, ((Fr.refl (OwnW g v) w).alloc _).trans h2 (fun _ _ h => h), fun i hi => ?_⟩
  rcases h3 i hi with h | h
  · exact .inl h
  · simp at h; exact .inr (by omega)

theorem Wr.drew {w : World} {base g : Nat} {v : Value} {bs : List Nat} (h : Wr w base g v bs) : Wr w.drew base g v bs := h

/-- Where the loop of Short stands: n is left to put. -/
def ShortRel (base g : Nat) (v : Value) (bs : List Nat) (a : Nat) (w : World) (s : Value) (wr : World) : Prop :=
  ∃ (n : Nat) (pre : List Nat), s = .int .i64 (n : Int) ∧ n ≤ 9223372036854775807 ∧ pre ++ shortL n = shortL a ∧ WStep base g v (bs ++ pre) w wr

set_option maxHeartbeats 400000 in
theorem short_nat (base g : Nat) (v : Value) (bs : List Nat) (a : Nat) (w : World) (hW : Wr w base g v bs) (ha : a ≤ 9223372036854775807)
    (hn : bs.length + 9 ≤ 140737488355328) (hbase : base ≤ w.heap.size) :
    Calls Try.prog 29 #[.pointer (some ⟨g, 0, none⟩), .int .i64 a] w fun e w' => e = .returned (.tuple #[]) ∧ WStep base g v (bs ++ shortL a) w w' := by
  have H9 := Lib.hid (shortL_nine ha)
  have HW := Lib.hid hW
  clear hW
  go_enter Try.func29, Try.ntmps29
  go_wp2_with fail
  go_loopw [1] (fun s wr => ShortRel base g v bs a w s wr) (fun s _ => (intOf s).toNat)
  case atStart =>
    exact ⟨a, [], rfl, ha, rfl, by simpa using WStep.refl HW.out⟩
  case round =>
    obtain ⟨n, pre, rfl, hn9, hpre, hst⟩ := hrel
    have HP := Lib.hid hpre
    clear hpre
    by_cases hlt : 127 < n
    · have hb := seven_bits n hn9
      have hb2 : ((128 + n % 128 : Nat) : Int) % 256 = ((128 + n % 128 : Nat) : Int) := by omega
      have HB := Lib.hid hb; have HB2 := Lib.hid hb2
      clear hb hb2
      have hlen : pre.length + (shortL n).length ≤ 9 := by rw [← List.length_append, HP.out]; exact H9.out
      have hpos := shortL_pos n
      obtain ⟨v1, hw1, hf1, ho1⟩ := hst
      go_wp2_with fail
      rw [HB.out, HB2.out]
      refine (raw_one base g v1 (bs ++ pre) _ wr hw1 (by omega) (by simp; omega) (by have := hf1.size; omega)).mono ?_
      rintro e w' ⟨rfl, hq⟩
      go_wp2_with fail
      refine ⟨⟨n / 128, pre ++ [128 + n % 128], rfl, by omega, ?_, ?_⟩, ?_⟩
      · rw [← HP.out, shortL_big (n := n) (by omega)]; simp
      · rw [Int.toNat_natCast, List.append_assoc] at hq
        exact WStep.trans hf1 ho1 hq
      · simp [intOf]; omega
    · have hlen : pre.length + (shortL n).length ≤ 9 := by rw [← List.length_append, HP.out]; exact H9.out
      have hpos := shortL_pos n
      obtain ⟨v1, hw1, hf1, ho1⟩ := hst
      go_wp2_with fail
      refine (raw_one base g v1 (bs ++ pre) _ wr hw1 (by omega) (by simp; omega) (by have := hf1.size; omega)).mono ?_
      rintro e w' ⟨rfl, hq⟩
      go_wp2_with fail
      go_end0
      refine ⟨rfl, ?_⟩
      rw [Int.toNat_natCast, List.append_assoc, ← shortL_small (n := n) (by omega), HP.out] at hq
      exact WStep.trans hf1 ho1 hq

set_option maxHeartbeats 400000 in
theorem short_neg (base g : Nat) (v : Value) (bs : List Nat) (a : Int) (w : World) (hW : Wr w base g v bs) (ha : a < 0)
    (hn : bs.length + 9 ≤ 140737488355328) (hbase : base ≤ w.heap.size) :
    Calls Try.prog 29 #[.pointer (some ⟨g, 0, none⟩), .int .i64 a] w fun e w' => e = .returned (.tuple #[]) ∧ WStep base g v (bs ++ [0]) w w' := by
  go_enter Try.func29, Try.ntmps29
  go_wp2_with fail
  refine wp_loop_rounds 1 ?_
  rw [rounds_succ]
  go_wp2_with fail
  refine (raw_one base g v bs 0 w hW (by omega) (by omega) hbase).mono ?_
  rintro e w' ⟨rfl, hq⟩
  go_wp2_with fail
  go_end0
  exact ⟨rfl, hq⟩

theorem short_any (base g : Nat) (v : Value) (bs : List Nat) (a : Int) (w : World) (hW : Wr w base g v bs) (ha : a ≤ 9223372036854775807)
    (hn : bs.length + 9 ≤ 140737488355328) (hbase : base ≤ w.heap.size) :
    Calls Try.prog 29 #[.pointer (some ⟨g, 0, none⟩), .int .i64 a] w fun e w' => e = .returned (.tuple #[]) ∧ WStep base g v (bs ++ shortL a.toNat) w w' := by
  by_cases h : a < 0
  · rw [show a.toNat = 0 by omega, shortL_small (by omega)]
    exact short_neg base g v bs a w hW h hn hbase
  · obtain ⟨n, rfl⟩ := Int.eq_ofNat_of_zero_le (show 0 ≤ a by omega)
    exact short_nat base g v bs n w hW (by omega) hn hbase
end Go.Proofs.Ytmjbfobjndiecaa
