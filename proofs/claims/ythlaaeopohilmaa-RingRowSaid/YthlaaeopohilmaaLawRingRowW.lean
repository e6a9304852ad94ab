/-
  The walk of RingRow.
-/
import Derived.Test.YthlaaeopohilmaaRows
import Derived.WalkKit
import Derived.ProofKit
import Derived.OpenShut
import Derived.ShutString
import Derived.ChangeOld
import Derived.Below
import Derived.Test.YthlaaeopohilmaaRgOwn
namespace Go.Proofs.Ythlaaeopohilmaa.ringRow
open Go.ChangeShapes Go.WideShapes Go.ChangeAt Go.RowKit Go.Proofs.Ythlaaeopohilmaa Go.Proofs.Ythlaaeopohilmaa.Plain
open Go.ChangeMaps (open_string shut_string)
set_option linter.unusedVariables false


/-- Where RingRow stands: the ring, what was put in, what came out. -/
structure RR (w wr : World) (b0 g s room first : Nat) (L : List Int) (vi : Value) (I : List Int) (vo : Value) (O : List Int) : Prop where
  ring : RgI wr g s room first L
  ri : OwnI wr b0 vi I
  ro : OwnI wr b0 vo O
  ne : ∀ b, vi.ownBlock = some b → vo.ownBlock ≠ some b
  hg : g < b0
  hs : s < b0
  h0 : w.heap.size ≤ g
  h1 : w.heap.size ≤ s
  b0 : b0 ≤ wr.heap.size
  bel : Below w.heap.size w wr
theorem RR.ringed {w wr w' : World} {b0 g s room first first' : Nat} {L L' : List Int} {vi vo : Value} {I O : List Int} (r : RR w wr b0 g s room first L vi I vo O) (hq : RgI w' g s room first' L') (hf : Fr (fun i => i = g ∨ i = s) wr w') : RR w w' b0 g s room first' L' vi I vo O := by
  have e1 := r.hg; have e2 := r.hs; have e3 := r.h0; have e4 := r.h1; have e5 := r.b0; have e6 := hf.size
  have e7 := r.bel.size
  refine ⟨hq, hf.own r.ri (fun i hi => ?_), hf.own r.ro (fun i hi => ?_), r.ne, e1, e2, e3, e4, by omega, r.bel.trans (hf.below e7 (fun i hi => by omega))⟩
  · have := (r.ri.lt i hi).1; omega
  · have := (r.ro.lt i hi).1; omega
theorem RR.drewN {w wr : World} {b0 g s room first : Nat} {L : List Int} {vi vo : Value} {I O : List Int} (r : RR w wr b0 g s room first L vi I vo O) (n : Nat) : RR w (wr.drewN n) b0 g s room first L vi I vo O :=
  r.ringed (r.ring.drewN n) ((Fr.refl _ _).drewN n)
theorem RR.inn {w wr w' : World} {b0 g s room first : Nat} {L : List Int} {vi vo vi' : Value} {I I' O : List Int} {o : Obj} (r : RR w wr b0 g s room first L vi I vo O) (ho : OwnI w' b0 vi' I') (hg : (wr.alloc o).grownBy w' vi.ownBlock) (ha : vi'.ownBlock = vi.ownBlock ∨ vi'.ownBlock = some (wr.heap.size + 1)) : RR w w' b0 g s room first L vi' I' vo O := by
  have e1 := r.hg; have e2 := r.hs; have e3 := r.h0; have e4 := r.h1; have e5 := r.b0; have e7 := r.bel.size
  have hf : Fr (fun i => vi.ownBlock = some i) wr w' := ((Fr.refl (fun _ => False) wr).alloc o |>.mono (fun _ _ h => h.elim)).trans (Fr.of_grown hg) (fun _ _ h => h)
  have e6 := hf.size
  have hri : ∀ i, vi.ownBlock = some i → b0 ≤ i ∧ i < wr.heap.size := fun i hi => r.ri.lt i hi
  refine ⟨r.ring.fr hf (fun h => by have := hri _ h; omega) (fun h => by have := hri _ h; omega), ho, hf.own r.ro (fun i hi h => r.ne i h hi), fun b hb hb2 => ?_, e1, e2, e3, e4, by omega, r.bel.trans (hf.below e7 (fun i hi => by have := hri i hi; omega))⟩
  rcases ha with ha | ha
  · exact r.ne b (ha ▸ hb) hb2
  · rw [ha] at hb
    have := (r.ro.lt b hb2).2
    injection hb with hb
    omega
theorem RR.out {w wr w' : World} {b0 g s room first : Nat} {L : List Int} {vi vo vo' : Value} {I O O' : List Int} {o : Obj} (r : RR w wr b0 g s room first L vi I vo O) (ho : OwnI w' b0 vo' O') (hg : (wr.alloc o).grownBy w' vo.ownBlock) (ha : vo'.ownBlock = vo.ownBlock ∨ vo'.ownBlock = some (wr.heap.size + 1)) : RR w w' b0 g s room first L vi I vo' O' := by
  have e1 := r.hg; have e2 := r.hs; have e3 := r.h0; have e4 := r.h1; have e5 := r.b0; have e7 := r.bel.size
  have hf : Fr (fun i => vo.ownBlock = some i) wr w' := ((Fr.refl (fun _ => False) wr).alloc o |>.mono (fun _ _ h => h.elim)).trans (Fr.of_grown hg) (fun _ _ h => h)
  have e6 := hf.size
  have hri : ∀ i, vo.ownBlock = some i → b0 ≤ i ∧ i < wr.heap.size := fun i hi => r.ro.lt i hi
  refine ⟨r.ring.fr hf (fun h => by have := hri _ h; omega) (fun h => by have := hri _ h; omega), hf.own r.ri (fun i hi h => r.ne i hi h), ho, fun b hb hb2 => ?_, e1, e2, e3, e4, by omega, r.bel.trans (hf.below e7 (fun i hi => by have := hri i hi; omega))⟩
  rcases ha with ha | ha
  · exact r.ne b hb (ha ▸ hb2)
  · rw [ha] at hb2
    have := (r.ri.lt b hb).2
    injection hb2 with hb2
    omega
set_option maxRecDepth 100000 in
set_option maxHeartbeats 40000000 in
theorem walk (a0 : Int) (a1 : Option Addr) (len1 cap1 : Nat) (z1 : List Int) (a2 : Int) (w : World) (w0 : (Lit.int .i64 a0).wf = true) (w1 : IsRow .i64 w a1 len1 cap1 z1) (w2 : (Lit.int .i64 a2).wf = true) :
    Calls Try.prog 5 #[.int .i64 a0, .slice a1 len1 cap1, .int .i64 a2] w fun e w' => e = .returned (.bool true) ∧ Below w.heap.size w w' := by
  obtain ⟨i0, hi0, hz0, hz1, hz2⟩ := info_parts info_int
  obtain ⟨l, hl, hR, hfit, hc, hn⟩ := row_int w1
  have ba := wf_i64 w0
  have bp := wf_i64 w2
  have har := fun W => around_any a0 10 W ba.1 ba.2 (by omega) (by omega)
  have hap := fun W => around_any a2 5 W bp.1 bp.2 (by omega) (by omega)
  have hal := aroundV_lt (n := a0) (m := 10) (by omega)
  have hpl := aroundV_lt (n := a2) (m := 5) (by omega)
  generalize aroundV a0 10 = ra at *
  generalize aroundV a2 5 = pa at *
  obtain ⟨k0, rfl⟩ := Int.eq_ofNat_of_zero_le hal.1
  obtain ⟨p0, rfl⟩ := Int.eq_ofNat_of_zero_le hpl.1
  have hk0 : k0 < 10 := by omega
  have hp0 : p0 < 5 := by omega
  have HAR := Lib.hid har; have HAP := Lib.hid hap; have HR := Lib.hid hR; have HFIT := Lib.hid hfit; have HL := Lib.hid hl
  clear har hap hR hfit hl w0 w1 w2 hal hpl ba bp
  go_enter Try.func5, Try.ntmps5
  go_wp2_with fail
  refine (HAR.out _).mono ?_
  rintro e w' ⟨rfl, rfl⟩
  go_wp2_with fail
  refine (HAP.out _).mono ?_
  rintro e w' ⟨rfl, rfl⟩
  go_wp2_with fail
  refine (new_anyI _ [] 0 rfl _ 0 none 0 Reads.none_ (by omega)).mono ?_
  rintro e w1 ⟨g, s, rfl, hq, hg, hs, hb⟩
  rw [show clampR (1 + (k0 : Int)) = k0 + 1 by unfold clampR; omega] at hq
  simp only [List.take_nil] at hq
  have hrr : RR w w1 w1.heap.size g s (k0 + 1) 0 [] (.slice none 0 0) [] (.slice none 0 0) [] :=
    ⟨hq, OwnI.nil _ _, OwnI.nil _ _, fun b hb => by simp [Value.ownBlock] at hb, hq.lt.1, hq.lt.2, hg, hs, Nat.le_refl _, hb⟩
  have HRR := Lib.hid hrr
  obtain ⟨b0, hb0⟩ : ∃ b0, b0 = w1.heap.size := ⟨_, rfl⟩
  rw [← hb0] at HRR
  clear hrr hq hg hs hb hb0 HAR HAP
  go_wp2_with fail
  go_loopw [8, 9, 10] (fun s8 s9 s10 wr => ∃ (vi vo : Value) (k first : Nat) (L I O : List Int), vi = s8 ∧ vo = s9 ∧ k ≤ len1 ∧ k ≤ 60 ∧ s10 = .int .i64 (k : Int) ∧ RR w wr b0 g s (k0 + 1) first L vi I vo O ∧ Hid (I = O ++ L) ∧ Hid (I.length ≤ k) ∧ Hid (O.length ≤ k)) (fun _ _ s10 _ => 60 - (intOf s10).toNat)
  case atStart => exact ⟨_, _, 0, 0, [], [], [], rfl, rfl, by omega, by omega, rfl, HRR.out, Lib.hid rfl, Lib.hid (by simp), Lib.hid (by simp)⟩
  case round =>
    obtain ⟨vi, vo, k, first, L, I, O, rfl, rfl, hk1, hk2, rfl, hrr, hI, hIl, hOl⟩ := hrel
    have HRR1 := Lib.hid hrr
    clear hrr
    by_cases hlt : k < len1 ∧ k < 60
    · obtain ⟨hlt1, hlt2⟩ := hlt
      obtain ⟨ad, x, rfl, hab, hx, hcx0⟩ := HR.out.num hlt1
      have hcx1 := (HRR1.out.bel.cell (p := ad.add k) (by rw [block_of_add]; exact hab)).trans hcx0
      have HC0 := Lib.hid hcx0
      clear hcx0 hx
      by_cases hfull : L.length < k0 + 1
      · go_wp2_with fail
        refine (push_yesI g s (k0 + 1) first L wr HRR1.out.ring x hfull).mono ?_
        rintro e w2 ⟨rfl, hq, hf⟩
        have hrr2 := HRR1.out.ringed hq hf
        have hcx2 := (hrr2.bel.cell (p := ad.add k) (by rw [block_of_add]; exact hab)).trans HC0.out
        have hz2' := hrr2.b0
        have HRR2 := Lib.hid hrr2
        clear hq hf hrr2 HRR1
        go_wp2_with (at_builtin; go_must (refine wpList_append_any _ rfl (.tmp 42) (.tmp 47) _ rfl b0 3 i0 _ 1 8 Try.underlying22 hi0 hz0 hz1 hz2 rfl (by decide) vi I.length (I.map EnI) rfl (HRR2.out.ri.alloc _) _ _ 1 1 [.int .i64 x] rfl (reads_one_int _ x _) (by simp [Value.oneCell']) ?c1 ?c2 ?k3b ?k3))
        case c1 => unfold maxLen; have := hIl.out; omega
        case c2 => have := hIl.out; omega
        case k3b => simp; omega
        case k3 =>
        intro v2 w3 hown hgr hat
        have hrr3 := HRR2.out.inn (vi' := v2) (I' := I ++ [x]) (OwnI.snoc hown) hgr (by simpa using hat)
        obtain ⟨L2, hL2⟩ : ∃ L2, L2 = L ++ [x] := ⟨_, rfl⟩
        obtain ⟨I2, hI2⟩ : ∃ I2, I2 = I ++ [x] := ⟨_, rfl⟩
        have hi2 : Hid (I2 = O ++ L2) := Lib.hid (by rw [hI2, hL2, hI.out, List.append_assoc])
        have hil2 : Hid (I2.length ≤ k + 1) := Lib.hid (by rw [hI2]; have := hIl.out; simp; omega)
        have hpos : Hid (0 < L2.length) := Lib.hid (by rw [hL2]; simp)
        rw [← hL2, ← hI2] at hrr3
        have HRR3 := Lib.hid hrr3
        clear hrr3 hL2 hI2 hown hgr hat hI hIl HRR2 hcx1 hcx2 hfull hz2'
        by_cases hpace : (k : Int) % (1 + (p0 : Int)) = 0
        · have hpb : ((k : Int) % (1 + (p0 : Int)) == 0) = true := by simpa using hpace
          clear hpace
          obtain ⟨y, L3, hL3⟩ : ∃ y L3, L2 = y :: L3 := by
            cases h : L2 with
            | nil => have := hpos.out; rw [h] at this; simp at this
            | cons y L3 => exact ⟨y, L3, rfl⟩
          have HL3 := Lib.hid hL3
          have hrr3 := HRR3.out
          rw [hL3] at hrr3
          have HRR4 := Lib.hid hrr3
          clear hrr3 hL3
          go_wp2_with fail
          refine (pop_yesI g s (k0 + 1) first L3 w3 y HRR4.out.ring).mono ?_
          rintro e w4 ⟨rfl, hq, hf⟩
          have hrr5 := HRR4.out.ringed hq hf
          have hz5 := hrr5.b0
          have HRR5 := Lib.hid hrr5
          clear hq hf hrr5 HRR4 HRR3
          go_wp2_with (at_builtin; go_must (refine wpList_append_any _ rfl (.tmp 60) (.tmp 62) _ rfl b0 3 i0 _ 1 8 Try.underlying22 hi0 hz0 hz1 hz2 rfl (by decide) vo O.length (O.map EnI) rfl (HRR5.out.ro.alloc _) _ _ 1 1 [.int .i64 y] rfl (reads_one_int _ y _) (by simp [Value.oneCell']) ?d1 ?d2 ?k5b ?k5))
          case d1 => unfold maxLen; have := hOl.out; omega
          case d2 => have := hOl.out; omega
          case k5b => simp; omega
          case k5 =>
          intro v5 w6 hown hgr hat
          have hrr6 := HRR5.out.out (vo' := v5) (O' := O ++ [y]) (OwnI.snoc hown) hgr (by simpa using hat)
          have HRR6 := Lib.hid hrr6
          clear hrr6 hown hgr hat HRR5 hz5
          go_wp2_with fail
          refine ⟨⟨_, _, k + 1, (first + 1) % (k0 + 1), L3, I2, O ++ [y], rfl, rfl, by omega, by omega, by go_num, HRR6.out, Lib.hid (by rw [hi2.out, HL3.out]; simp), hil2, Lib.hid (by have := hOl.out; simp; omega)⟩, by simp [intOf]; omega⟩
        · have hpb : ((k : Int) % (1 + (p0 : Int)) == 0) = false := by simpa using hpace
          clear hpace
          go_wp2_with fail
          refine ⟨⟨_, _, k + 1, first, L2, I2, O, rfl, rfl, by omega, by omega, by go_num, HRR3.out, hi2, hil2, Lib.hid (by have := hOl.out; omega)⟩, by simp [intOf]; omega⟩
      · go_wp2_with fail
        refine (push_noI g s (k0 + 1) first L wr HRR1.out.ring x (by omega)).mono ?_
        rintro e w2 ⟨rfl, n2, rfl⟩
        have hrr3 := HRR1.out.drewN n2
        have hi2 := hI
        have hil2 : Hid (I.length ≤ k + 1) := Lib.hid (by have := hIl.out; omega)
        have hpos : Hid (0 < L.length) := Lib.hid (by omega)
        obtain ⟨w3, hw3⟩ : ∃ w3, w3 = wr.drewN n2 := ⟨_, rfl⟩
        rw [← hw3] at hrr3 ⊢
        have HRR3 := Lib.hid hrr3
        clear hrr3 hw3 hI hIl HRR1 hcx1 hfull
        by_cases hpace : (k : Int) % (1 + (p0 : Int)) = 0
        · have hpb : ((k : Int) % (1 + (p0 : Int)) == 0) = true := by simpa using hpace
          clear hpace
          obtain ⟨y, L3, hL3⟩ : ∃ y L3, L = y :: L3 := by
            cases h : L with
            | nil => have := hpos.out; rw [h] at this; simp at this
            | cons y L3 => exact ⟨y, L3, rfl⟩
          have HL3 := Lib.hid hL3
          have hrr3 := HRR3.out
          rw [hL3] at hrr3
          have HRR4 := Lib.hid hrr3
          clear hrr3 hL3
          go_wp2_with fail
          refine (pop_yesI g s (k0 + 1) first L3 w3 y HRR4.out.ring).mono ?_
          rintro e w4 ⟨rfl, hq, hf⟩
          have hrr5 := HRR4.out.ringed hq hf
          have hz5 := hrr5.b0
          have HRR5 := Lib.hid hrr5
          clear hq hf hrr5 HRR4 HRR3
          go_wp2_with (at_builtin; go_must (refine wpList_append_any _ rfl (.tmp 60) (.tmp 62) _ rfl b0 3 i0 _ 1 8 Try.underlying22 hi0 hz0 hz1 hz2 rfl (by decide) vo O.length (O.map EnI) rfl (HRR5.out.ro.alloc _) _ _ 1 1 [.int .i64 y] rfl (reads_one_int _ y _) (by simp [Value.oneCell']) ?d1 ?d2 ?k5b ?k5))
          case d1 => unfold maxLen; have := hOl.out; omega
          case d2 => have := hOl.out; omega
          case k5b => simp; omega
          case k5 =>
          intro v5 w6 hown hgr hat
          have hrr6 := HRR5.out.out (vo' := v5) (O' := O ++ [y]) (OwnI.snoc hown) hgr (by simpa using hat)
          have HRR6 := Lib.hid hrr6
          clear hrr6 hown hgr hat HRR5 hz5
          go_wp2_with fail
          refine ⟨⟨_, _, k + 1, (first + 1) % (k0 + 1), L3, I, O ++ [y], rfl, rfl, by omega, by omega, by go_num, HRR6.out, Lib.hid (by rw [hi2.out, HL3.out]; simp), hil2, Lib.hid (by have := hOl.out; simp; omega)⟩, by simp [intOf]; omega⟩
        · have hpb : ((k : Int) % (1 + (p0 : Int)) == 0) = false := by simpa using hpace
          clear hpace
          go_wp2_with fail
          refine ⟨⟨_, _, k + 1, first, L, I, O, rfl, rfl, by omega, by omega, by go_num, HRR3.out, hi2, hil2, Lib.hid (by have := hOl.out; omega)⟩, by simp [intOf]; omega⟩
    · obtain ⟨Ai, ci, rfl, hci, _⟩ := HRR1.out.ri.slice
      have HIO := hI; have hil : I.length ≤ 60 := by have := hIl.out; omega
      clear hIl hOl hI
      by_cases hge : k < len1
      all_goals
        go_wp2_with fail
        clear hlt hge HR HL HFIT
        go_loopw [9] (fun s9 wr2 => ∃ (vo2 : Value) (first2 : Nat) (L2 O2 : List Int), vo2 = s9 ∧ RR w wr2 b0 g s (k0 + 1) first2 L2 (.slice Ai I.length ci) I vo2 O2 ∧ Hid (I = O2 ++ L2)) (fun s9 _ => match s9 with | .slice _ n _ => I.length - n | _ => 0)
        case atStart => exact ⟨_, first, L, O, rfl, HRR1.out, HIO⟩
        case round =>
          clear HRR1 HIO
          obtain ⟨vo2, f2, L2, O2, rfl, hrr2, hIO2⟩ := hrel
          obtain ⟨Ao, co, rfl, hco, _⟩ := hrr2.ro.slice
          have HRR2 := Lib.hid hrr2
          clear hrr2
          cases L2 with
          | nil =>
            have hOI : I = O2 := by rw [hIO2.out]; simp
            obtain ⟨_, _, he, _, hri⟩ := HRR2.out.ri.slice
            injection he with e1 e2 e3
            subst e1 e3
            obtain ⟨_, _, he, _, hro⟩ := HRR2.out.ro.slice
            injection he with e1 e2 e3
            subst e1 e3
            subst hOI
            have HRI := Lib.hid hri; have HRO := Lib.hid hro
            clear hri hro e2 hIO2
            go_wp2_with fail
            refine (len_anyI g s (k0 + 1) f2 [] _ HRR2.out.ring).mono ?_
            rintro e w' ⟨rfl, rfl⟩
            go_wp2_with fail
            refine (sameInts_yes I _ rfl _ _ _ _ _ _ _ HRI.out HRO.out (by omega)).mono ?_
            rintro e w' ⟨rfl, n1, rfl⟩
            have h1 := HRR2.out.drewN n1
            have HRR3 := Lib.hid h1
            clear h1
            go_wp2_with fail
            refine (len_anyI g s (k0 + 1) f2 [] _ HRR3.out.ring).mono ?_
            rintro e w' ⟨rfl, rfl⟩
            go_wp2_with fail
            have hro := room_anyI g s (k0 + 1) f2 [] _ HRR3.out.ring
            rw [show ((k0 + 1 - ([] : List Int).length : Nat) : Int) = 1 + (k0 : Int) by simp; omega] at hro
            refine hro.mono ?_
            rintro e w' ⟨rfl, n2, rfl⟩
            clear hro
            have h1 := HRR3.out.drewN n2
            rw [World.drewN_drewN] at h1
            have HRR4 := Lib.hid h1
            clear h1
            go_wp2_with fail
            refine (lives_any _).mono ?_
            rintro e w' ⟨rfl, hbl⟩
            go_wp2_with fail
            go_ret
            exact ⟨rfl, HRR4.out.bel.trans (hbl.mono HRR4.out.bel.size)⟩
          | cons y L3 =>
            have hlo : O2.length < I.length := by rw [hIO2.out]; simp
            go_wp2_with fail
            refine (len_anyI g s (k0 + 1) f2 (y :: L3) _ HRR2.out.ring).mono ?_
            rintro e w' ⟨rfl, rfl⟩
            go_wp2_with fail
            refine (pop_yesI g s (k0 + 1) f2 L3 _ y HRR2.out.ring).mono ?_
            rintro e w4 ⟨rfl, hq, hf⟩
            have hrr5 := HRR2.out.ringed hq hf
            have hz5 := hrr5.b0
            have HRR5 := Lib.hid hrr5
            clear hq hf hrr5 HRR2
            go_wp2_with (at_builtin; go_must (refine wpList_append_any _ rfl (.tmp 79) (.tmp 81) _ rfl b0 3 i0 _ 1 8 Try.underlying22 hi0 hz0 hz1 hz2 rfl (by decide) (.slice Ao O2.length co) O2.length (O2.map EnI) rfl (HRR5.out.ro.alloc _) _ _ 1 1 [.int .i64 y] rfl (reads_one_int _ y _) (by simp [Value.oneCell']) ?f1 ?f2 ?f3 ?f4))
            case f1 => unfold maxLen; omega
            case f2 => omega
            case f3 => simp; omega
            case f4 =>
            intro v5 w6 hown hgr hat
            have hrr6 := HRR5.out.out (vo' := v5) (O' := O2 ++ [y]) (OwnI.snoc hown) hgr (by simpa using hat)
            obtain ⟨A6, c6, rfl, _⟩ := hrr6.ro.slice
            have HRR6 := Lib.hid hrr6
            clear hrr6 hown hgr hat HRR5 hz5
            go_wp2_with fail
            refine ⟨⟨_, (f2 + 1) % (k0 + 1), L3, O2 ++ [y], rfl, HRR6.out, Lib.hid (by rw [hIO2.out]; simp)⟩, by simp; omega⟩
end Go.Proofs.Ythlaaeopohilmaa.ringRow
