
/-
  How the document writes a list of numbers, and a program.
-/
import Derived.Test.YtmjbfobjndiecaaWrite
import Derived.Test.YtmjbfobjndiecaaRef
namespace Go.Proofs.Ytmjbfobjndiecaa
open Go.RowKit Plain

/-- Bytes of one's own, and nothing of the old memory has turned. -/
def OutB (w : World) (base : Nat) (bs : List Nat) (s : Value) (wr : World) : Prop :=
  ∃ A c, s = .slice A bs.length c ∧ wr.ownsRow base 5 1 s bs.length (BS bs) ∧ Below base w wr

def ListRel (w : World) (l : List Int) (s3 s4 : Value) (wr : World) : Prop :=
  ∃ k : Nat, k ≤ l.length ∧ s4 = .int .i64 (k : Int) ∧ OutB w w.heap.size (shortL l.length ++ (l.take k).flatMap fun x => shortL x.toNat) s3 wr

set_option maxHeartbeats 2000000 in
set_option maxRecDepth 100000 in
theorem refList_any (l : List Int) (w : World) (B : Nat) (A : Option Addr) (n c : Nat) (hr : RI w B A n c l) (hB : B ≤ w.heap.size) (hl : l.length ≤ 1000) (hfit : ∀ x ∈ l, x ≤ 9223372036854775807) :
    Calls Try.prog 41 #[.slice A n c] w fun e w' => ∃ v, e = .returned v ∧ OutB w w.heap.size (listL l) v w' := by
  obtain ⟨i0, hi0, hz0, hz1, hz2⟩ := info_parts info_byte
  obtain ⟨rfl, hnc, hrd⟩ := hr
  have HR := Lib.hid hrd
  have HF := Lib.hid hfit
  clear hrd hfit
  go_enter Try.func41, Try.ntmps41
  go_wp2_with fail
  refine (ref_short (l.length : Int) w (by omega)).mono ?_
  rintro e w1 ⟨A1, c1, rfl, hown1, hb1⟩
  rw [show ((l.length : Int)).toNat = l.length by omega] at hown1
  have HO1 := Lib.hid hown1
  have HB1 := Lib.hid hb1
  clear hown1 hb1
  rw [show ((l.length : Int)).toNat = l.length by omega]
  go_wp2_with fail
  go_loopw [3, 4] (fun s3 s4 wr => ListRel w l s3 s4 wr) (fun _ s4 _ => l.length - (intOf s4).toNat)
  case atStart => exact ⟨0, by omega, rfl, A1, c1, by simp, by simpa using HO1.out, HB1.out⟩
  case round =>
    obtain ⟨k, hk, rfl, A2, c2, rfl, hown, hbel⟩ := hrel
    have zr := hbel.size
    by_cases hlt : k < l.length
    · obtain ⟨ad, x, rfl, hab, hx, hc⟩ := RI.at_ ⟨rfl, hnc, HR.out⟩ hlt
      have hxf := HF.out x (List.mem_of_getElem? hx)
      have d0 := (hbel.cell (p := ad.add k) (by rw [block_of_add]; omega)).trans hc
      have HSN := Lib.hid (flatMap_take (f := fun x : Int => shortL x.toNat) hx)
      have hlen : (shortL l.length ++ (l.take k).flatMap fun x => shortL x.toNat).length ≤ 9 + 9000 := by
        have h1 := shortN_len (n := l.length) (by omega)
        have h2 := flatMap_len (l.take k) (fun x => shortL x.toNat) 9 (fun x hx => shortI_len (HF.out x (List.mem_of_mem_take hx)))
        simp only [List.length_append, List.length_take] at h2 ⊢
        have : min k l.length * 9 ≤ 9000 := by omega
        omega
      have HO := Lib.hid hown
      have HB := Lib.hid hbel
      generalize hbs : (shortL l.length ++ (l.take k).flatMap fun x => shortL x.toNat) = bs at *
      have HBS := Lib.hid hbs
      have hx9 := shortI_len hxf
      clear hown hbel hx hc hbs
      go_wp2_with fail
      refine (ref_short x wr hxf).mono ?_
      rintro e w3 ⟨A3, c3, rfl, hown3, hb3⟩
      have z3 := hb3.size
      have HR3 := Lib.hid (Reads.of_own hown3)
      have HB3 := Lib.hid hb3
      clear hown3 hb3
      have HOb : Hid (w3.ownsRow w.heap.size 5 1 (.slice A2 bs.length c2) bs.length (BS bs)) := (Fr.of_below HB3.out).own HO.out (fun i hi => by have := (HO.out.lt i hi).2; omega)
      go_wp2_with (at_builtin; go_must (refine wpList_append_any _ rfl (.tmp 14) (.tmp 19) _ rfl w.heap.size 5 i0 _ 1 1 Try.underlying29 hi0 hz0 hz1 hz2 rfl (by decide) (.slice A2 bs.length c2) _ _ rfl HOb.out _ A3 (shortL x.toNat).length c3 (BS (shortL x.toNat)) rfl HR3.out (BS_one _) ?c1 ?c2 (by omega) ?k))
      case c1 => unfold maxLen; omega
      case c2 => omega
      case k =>
      intro v' w4 hown4 hg4 hat4
      obtain ⟨A4, c4, rfl, _, _⟩ := own_slice hown4
      go_wp2_with fail
      refine ⟨⟨k + 1, by omega, by go_num, A4, c4, ?_, ?_, ?_⟩, by simp [intOf]; omega⟩
      · rw [HSN.out, ← List.append_assoc, HBS.out, List.length_append]
      · rw [HSN.out, ← List.append_assoc, HBS.out, List.length_append, ← BS_append]
        exact hown4
      · exact (HB.out.trans (HB3.out.mono zr)).grown hg4 (by omega) (fun i hi => (HO.out.lt i hi).1)
    · have hq : OutB w w.heap.size (listL l) (.slice A2 (shortL l.length ++ (l.take k).flatMap fun x => shortL x.toNat).length c2) wr := by
        rw [List.take_of_length_le (by omega)] at hown ⊢
        exact ⟨A2, c2, rfl, hown, hbel⟩
      have HQ := Lib.hid hq
      clear hq hown hbel
      go_wp2_with fail
      go_ret
      exact ⟨_, rfl, HQ.out⟩
end Go.Proofs.Ytmjbfobjndiecaa
