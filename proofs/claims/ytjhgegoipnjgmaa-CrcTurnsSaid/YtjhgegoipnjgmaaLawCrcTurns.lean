/-
  Proved here: CrcTurns returns true for every input: a seal of which some bits within four bytes side by side are turned is refused, if they are all of the bytes, or all of the sum.
-/
import Derived.Test.YtjhgegoipnjgmaaRows
import Derived.WalkKit
import Derived.ProofKit
import Derived.OpenShut
import Derived.ShutString
import Derived.ChangeOld
import Derived.Below
import Derived.Deep.RegionHeld3
import Derived.Deep.DrawnRows
import Derived.BigRegion
import Derived.Test.YtjhgegoipnjgmaaCrcTurnS
import Derived.Test.YtjhgegoipnjgmaaCrcLaw
import Derived.Test.YtjhgegoipnjgmaaCrcArr
import Derived.Test.YtjhgegoipnjgmaaSame
namespace Go.Proofs.Ytjhgegoipnjgmaa.crcTurns
open Go.ChangeShapes Go.WideShapes Go.ChangeAt Go.RowKit Go.Proofs.Ytjhgegoipnjgmaa Go.Proofs.Ytjhgegoipnjgmaa.Plain
open Go.ChangeMaps (open_string shut_string)
set_option linter.unusedVariables false

theorem own : ownKnob Try.prog.godebug = none := by kernel_rfl
theorem laidOut : laidOutB Try.prog = true := by kernel_rfl

attribute [local go_sem ↓] Go.wp_at_zero Go.wp_at_succ

theorem cut_nat (a : Int) (h1 : -9223372036854775808 ≤ a) (h2 : a ≤ 9223372036854775807) : (∃ u : Nat, a = -(u : Int) - 1 ∧ u ≤ 9223372036854775807) ∨ ∃ u : Nat, a = (u : Int) ∧ u ≤ 9223372036854775807 := by
  by_cases h : a < 0
  · exact .inl ⟨(-(a + 1)).toNat, by omega, by omega⟩
  · exact .inr ⟨a.toNat, by omega, by omega⟩

/-- Where the loop stands: k bytes of the seal are turned. -/
def TurnRel (w wb : World) (b : List Nat) (n p : Nat) (D : List Nat) (g cap k : Nat) (t : Value) (wr : World) : Prop :=
  ∃ o, t = .bool (anyD D k) ∧ Oth (sealL b) p D k o ∧ wr.ownsRow (w.heap.size + 1) 5 1 (.slice (some ⟨g, 0, none⟩) (n + 4) cap) (n + 4) (BS o) ∧ Below (w.heap.size + 1) wb wr

set_option maxRecDepth 100000 in
set_option maxHeartbeats 8000000 in
theorem walk (a0 : Option Addr) (len0 cap0 : Nat) (z0 : List Int) (a1 : Int) (x2 y2 z2 u2 : Int) (w : World) (w0 : IsRow .u8 w a0 len0 cap0 z0) (w1 : (Lit.int .i64 a1).wf = true) (w2 : ((Lit.int .u8 x2).wf = true ∧ (Lit.int .u8 y2).wf = true) ∧ (Lit.int .u8 z2).wf = true ∧ (Lit.int .u8 u2).wf = true) :
    Calls Try.prog 6 #[.slice a0 len0 cap0, .int .i64 a1, .agg #[.int .u8 x2, .int .u8 y2, .int .u8 z2, .int .u8 u2]] w fun e w' => e = .returned (.bool true) ∧ Below w.heap.size w w' := by
  obtain ⟨i0, hi0, hz0, hz1, hz2⟩ := info_parts info_byte
  obtain ⟨xs, n, hl, hn, hc, hx, hr, hf⟩ := few_open w0 200 (by omega)
  obtain ⟨⟨v0, v1⟩, v2, v3⟩ := w2
  have q0 := wf_u8 v0; have q1 := wf_u8 v1; have q2 := wf_u8 v2; have q3 := wf_u8 v3
  obtain ⟨d0, rfl⟩ := Int.eq_ofNat_of_zero_le q0.1
  obtain ⟨d1, rfl⟩ := Int.eq_ofNat_of_zero_le q1.1
  obtain ⟨d2, rfl⟩ := Int.eq_ofNat_of_zero_le q2.1
  obtain ⟨d3, rfl⟩ := Int.eq_ofNat_of_zero_le q3.1
  have hbd := bounds_i64 w1
  have HL := Lib.hid hl; have HX := Lib.hid hx; have HR := Lib.hid hr; have HF := Lib.hid hf
  clear w0 hl hx hr hf v0 v1 v2 v3 w1
  have dn : ((n : Int) + 4 == 0) = false := by simp; omega
  rcases cut_nat a1 (by omega) (by omega) with ⟨u, rfl, hu⟩ | ⟨u, rfl, hu⟩
  all_goals
    clear hbd
    obtain ⟨p, hp⟩ := Int.eq_ofNat_of_zero_le (Int.emod_nonneg (u : Int) (show (n : Int) + 4 ≠ 0 by omega))
    have hpn := Int.emod_lt_of_pos (u : Int) (show 0 < (n : Int) + 4 by omega)
    rw [hp] at hpn
    have d1' : decide (-(u : Int) - 1 < 0) = true := by simp; omega
    have d2' : decide ((u : Int) < 0) = false := by simp
    obtain ⟨D, hD⟩ : ∃ D : List Nat, D = [d0, d1, d2, d3] := ⟨_, rfl⟩
    have hDC : (BS D).toArray = #[.int .u8 (d0 : Int), .int .u8 (d1 : Int), .int .u8 (d2 : Int), .int .u8 (d3 : Int)] := by rw [hD]; rfl
    have hD4 : D.length = 4 := by rw [hD]; rfl
    have hDlt : ∀ j, D.getD j 0 < 256 := by
      intro j
      rw [hD]
      match j with
      | 0 => show d0 < 256; omega
      | 1 => show d1 < 256; omega
      | 2 => show d2 < 256; omega
      | 3 => show d3 < 256; omega
      | j + 4 => show 0 < 256; omega
    have hcD : ∀ k, (w.alloc (.cells (BS D).toArray 34)).cell? ⟨w.heap.size, k, none⟩ = (BS D)[k]? := fun k => by
      have := cell_of_row (w.alloc (.cells (BS D).toArray 34)) w.heap.size k (BS D).toArray _ (0, 0) (heap_alloc_new w _)
      rw [this, List.getElem?_toArray]
    rw [hDC] at hcD
    have hbw : Below w.heap.size w (w.alloc (.cells #[.int .u8 (d0 : Int), .int .u8 (d1 : Int), .int .u8 (d2 : Int), .int .u8 (d3 : Int)] 34)) := (Below.refl _ w).alloc (Nat.le_refl _) _
    have hzw : (w.alloc (.cells #[.int .u8 (d0 : Int), .int .u8 (d1 : Int), .int .u8 (d2 : Int), .int .u8 (d3 : Int)] 34)).heap.size = w.heap.size + 1 := by simp
    have hrw := HR.out.below hbw
    have HD := Lib.hid hD; have HDC := Lib.hid hDC; have HD4 := Lib.hid hD4; have HDL := Lib.hid hDlt; have HCD := Lib.hid hcD; have HBW := Lib.hid hbw; have HRW := Lib.hid hrw; have HZW := Lib.hid hzw
    clear hD hDC hD4 hDlt hcD hbw hrw hzw
    go_enter Try.func6, Try.ntmps6
    go_wp2_with fail
    refine (HF.out _).mono ?_
    rintro e w' ⟨rfl, rfl⟩
    obtain ⟨wb, hwb⟩ : ∃ wb, wb = w.alloc (.cells #[.int .u8 (d0 : Int), .int .u8 (d1 : Int), .int .u8 (d2 : Int), .int .u8 (d3 : Int)] 34) := ⟨_, rfl⟩
    rw [← hwb] at HCD HBW HRW HZW ⊢
    clear hwb
    go_wp2_with fail
    refine (seal_any wb xs n HL.out HX.out _ a0 cap0 HRW.out (by rw [HZW.out]; omega) (by omega)).mono ?_
    rintro e w4 ⟨A4, c4, rfl, ho4, hb4⟩
    rw [sealL_length, HL.out] at ho4
    have hsz := HZW.out
    rw [hsz] at ho4 hb4
    obtain ⟨g, hgA, hgb⟩ : ∃ g, A4 = some ⟨g, 0, none⟩ ∧ w.heap.size + 1 ≤ g := by
      rcases ho4.2 with ⟨e, h0⟩ | ⟨g, cap, cur, e, hb, _, hnc, _⟩
      · omega
      · injection e with e
        exact ⟨g, e, hb⟩
    subst hgA
    have hcap := own_cap ho4
    have hrel0 : Hid (TurnRel w wb xs n p D g c4 0 (.bool false) w4) := ⟨sealL xs, rfl, Oth.zero _ _ _, ho4, hb4⟩
    clear ho4 hb4 hsz
    by_cases hpin : p < n
    · have d37 : decide (n ≤ p) = false := by simp; omega
      go_wp2_with fail
      rw [hp]
      clear hp
      go_loopw [9, 10] (fun t i wr => ∃ k : Nat, k ≤ 4 ∧ p + k ≤ n ∧ i = .int .i64 (k : Int) ∧ TurnRel w wb xs n p D g c4 k t wr) (fun _ i _ => 4 - (intOf i).toNat)
      case atStart => exact ⟨0, by omega, by omega, rfl, hrel0.out⟩
      case round =>
        obtain ⟨k, hk, hpk, rfl, o, ht, hoth, hown, hbel⟩ := hrel
        have zr := hbel.size
        have HO := Lib.hid hown; have HB := Lib.hid hbel; have HOT := Lib.hid hoth
        obtain ⟨tk, htk⟩ : ∃ tk, tk = anyD D k := ⟨_, rfl⟩
        rw [← htk] at ht
        subst ht
        have hsl : (sealL xs).length = n + 4 := by rw [sealL_length, HL.out]
        by_cases hk4 : k < 4
        · by_cases hkn : p + k < n
          · have hdk : D[k]? = some (D.getD k 0) := by
              rw [List.getD_eq_getElem?_getD, List.getElem?_eq_getElem (by rw [HD4.out]; exact hk4)]; rfl
            have dk256 := HDL.out k
            have hkl : p + k < (sealL xs).length := by omega
            have hstep := hoth.step (k := k) hkl
            have hany : anyD D (k + 1) = (tk || (D.getD k 0 != 0)) := by rw [htk]; rfl
            have hcd : wb.cell? ⟨w.heap.size, k, none⟩ = some (.int .u8 ((D.getD k 0 : Nat) : Int)) := by rw [HCD.out, BS, List.getElem?_map, hdk]; rfl
            generalize D.getD k 0 = dk at hdk dk256 hstep hany hcd
            have hok : o[p + k]? = some ((sealL xs)[p + k]) := by rw [hoth.2, if_neg (by omega), List.getElem?_eq_getElem hkl]
            have hx256 : (sealL xs)[p + k] < 256 := sealL_lt HX.out _ (List.getElem_mem _)
            generalize (sealL xs)[p + k] = x at hx256 hstep hok
            obtain ⟨y, hy⟩ : ∃ y, y = x ^^^ dk := ⟨_, rfl⟩
            have e1 := u8_xor_nat x dk hx256 dk256
            rw [← hy] at e1 hstep
            have c1 : wr.cell? ⟨w.heap.size, k, none⟩ = some (.int .u8 (dk : Int)) := (hbel.cell (by show w.heap.size < w.heap.size + 1; omega)).trans hcd
            have c2 : wr.cell? ⟨g, p + k, none⟩ = some (.int .u8 (x : Int)) := by
              rw [hown.cellAt (p + k) (by omega), BS, List.getElem?_map, hok]; rfl
            have f2 := hown.frozenAt (p + k)
            have hst : (wr.setCell ⟨g, p + k, none⟩ (.int .u8 (y : Int))).ownsRow (w.heap.size + 1) 5 1 (.slice (some ⟨g, 0, none⟩) (n + 4) c4) (n + 4) (BS (o.set (p + k) y)) := by
              have := (hown.stored (p + k) (.int .u8 (y : Int))).1
              rwa [show (BS o).set (p + k) (.int .u8 (y : Int)) = BS (o.set (p + k) y) by simp [BS, B, List.map_set]] at this
            have hbl : Below (w.heap.size + 1) wb (wr.setCell ⟨g, p + k, none⟩ (.int .u8 (y : Int))) := hbel.setCell (p := ⟨g, p + k, none⟩) hgb _
            have HBL := Lib.hid hbl
            have hne1 : (⟨g, p + k, none⟩ : Addr) ≠ ⟨w.heap.size, k, none⟩ := fun e => by injection e with e; omega
            have s1 : (wr.setCell ⟨g, p + k, none⟩ (.int .u8 (y : Int))).cell? ⟨w.heap.size, k, none⟩ = some (.int .u8 (dk : Int)) := by
              first
                | exact (World.cell?_setCell_other wr _ _ _ hne1).trans c1
                | exact (World.cell?_setCell_other wr _ _ _ hne1.symm).trans c1
            have HST := Lib.hid hst; have HSTEP := Lib.hid hstep; have HANY := Lib.hid hany; have HTK := Lib.hid htk; have HY := Lib.hid hy
            have i1 : (0 : Int) ≤ (p : Int) + (k : Int) := by omega
            have i2 : (p : Int) + (k : Int) < (n : Int) + 4 := by omega
            have i3 : ((p : Int) + (k : Int)).toNat = p + k := by omega
            have i4 : (0 : Int) ≤ (k : Int) := by omega
            have i5 : (k : Int) < 4 := by omega
            have i6 : IntKind.i64.wrap ((p : Int) + (k : Int)) = (p : Int) + (k : Int) := IntWalk.i64_in _ (by omega)
            clear htk hbl hst hstep hany hy hcd hdk hown hbel hoth hkl hok hsl
            go_wp2_with fail
            go_region
            clear i1 i2 i3 i6 c1 c2 f2 hne1 e1
            cases tk
            · by_cases hdz : dk = 0
              · subst hdz
                go_wp2_with fail
                exact ⟨⟨k + 1, by omega, by omega, by go_num, o.set (p + k) y, by rw [HANY.out]; rfl, HSTEP.out, HST.out, HBL.out.drew⟩, by simp [intOf]; omega⟩
              · have hnz : ((dk : Int) != 0) = true := by
                  have : ¬ ((dk : Int) = 0) := by omega
                  simpa using this
                have hnn : (dk != 0) = true := by simpa using hdz
                have HNN := Lib.hid hnn
                clear hnn hdz
                go_wp2_with fail
                exact ⟨⟨k + 1, by omega, by omega, by go_num, o.set (p + k) y, by rw [HANY.out, HNN.out]; rfl, HSTEP.out, HST.out, HBL.out.drew⟩, by simp [intOf]; omega⟩
            · go_wp2_with fail
              exact ⟨⟨k + 1, by omega, by omega, by go_num, o.set (p + k) y, by rw [HANY.out, Bool.true_or], HSTEP.out, HST.out, HBL.out.drew⟩, by simp [intOf]; omega⟩
          · have hlen : o.length = n + 4 := by rw [hoth.1, hsl]
            have hox := hoth.lt (sealL_lt HX.out) HDL.out
            have hro : Reads wr wr.heap.size 1 (some ⟨g, 0, none⟩) (n + 4) (BS o) := Reads.of_own hown
            have hrb : Reads wr wr.heap.size 1 a0 n (BS xs) := (HRW.out.keep fun q hq => hbel.cell (by omega)).more (by have := HZW.out; omega)
            have hbw' : Below w.heap.size w wr := HBW.out.trans (hbel.mono (by omega))
            have HLEN := Lib.hid hlen; have HOX := Lib.hid hox; have HRO := Lib.hid hro; have HRB := Lib.hid hrb; have HTK := Lib.hid htk; have HBW' := Lib.hid hbw'
            clear htk hlen hox hro hrb hbw' hown hbel hoth HO HB hsl
            cases tk
            · have hos : o = sealL xs := HOT.out.same HTK.out.symm
              have hw0 : whyI o = 0 := by rw [hos]; exact whyI_seal xs
              have HOS := Lib.hid hos; have HW0 := Lib.hid hw0
              clear hos hw0
              go_wp2_with fail
              refine (open_all wr o (n + 4) HLEN.out HOX.out _ (some ⟨g, 0, none⟩) c4 HRO.out hcap (Nat.le_refl _) (by omega)).mono ?_
              rintro e wx ⟨A', m', c', rfl, hox, hbx, hmx⟩
              rw [HW0.out]
              obtain rfl : m' = n := by
                rcases hmx with ⟨_, h⟩ | ⟨h, _⟩
                · have := HLEN.out; omega
                · exact absurd HW0.out h
              rw [HOS.out, sealL_take HL.out] at hox
              have hrx : Reads wx wx.heap.size 1 A' m' (BS xs) := Reads.of_own hox
              have hrbx : Reads wx wx.heap.size 1 a0 m' (BS xs) := (HRB.out.below hbx).more hbx.size
              have HRX := Lib.hid hrx; have HRBX := Lib.hid hrbx
              have HBX : Hid (Below w.heap.size w wx) := HBW'.out.trans (hbx.mono HBW'.out.size)
              clear hrx hrbx hbx hox hmx
              go_wp2_with fail
              refine (same_yes xs m' HL.out _ _ _ A' a0 c' cap0 HRX.out HRBX.out (by omega)).mono ?_
              rintro e wy ⟨rfl, ky, rfl⟩
              go_wp2_with fail
              refine (crc_lives _).mono ?_
              rintro e wl ⟨rfl, hbl⟩
              go_wp2_with fail
              go_ret
              exact ⟨rfl, (below_drews HBX.out ky).trans (hbl.mono HBX.out.size)⟩
            · have hw4 : whyI o = 4 := seal_turned HL.out HX.out HDL.out HOT.out hk (by omega) HTK.out.symm
              have HW4 := Lib.hid hw4
              clear hw4
              go_wp2_with fail
              refine (open_all wr o (n + 4) HLEN.out HOX.out _ (some ⟨g, 0, none⟩) c4 HRO.out hcap (Nat.le_refl _) (by omega)).mono ?_
              rintro e wx ⟨A', m', c', rfl, hox, hbx, hmx⟩
              rw [HW4.out]
              obtain rfl : m' = 0 := by
                rcases hmx with ⟨h, _⟩ | ⟨_, h⟩
                · rw [HW4.out] at h; omega
                · exact h
              have HBX : Hid (Below w.heap.size w wx) := HBW'.out.trans (hbx.mono HBW'.out.size)
              clear hbx hox hmx
              go_wp2_with fail
              refine (crc_lives _).mono ?_
              rintro e wl ⟨rfl, hbl⟩
              go_wp2_with fail
              go_ret
              exact ⟨rfl, HBX.out.trans (hbl.mono HBX.out.size)⟩
        · have hlen : o.length = n + 4 := by rw [hoth.1, hsl]
          have hox := hoth.lt (sealL_lt HX.out) HDL.out
          have hro : Reads wr wr.heap.size 1 (some ⟨g, 0, none⟩) (n + 4) (BS o) := Reads.of_own hown
          have hrb : Reads wr wr.heap.size 1 a0 n (BS xs) := (HRW.out.keep fun q hq => hbel.cell (by omega)).more (by have := HZW.out; omega)
          have hbw' : Below w.heap.size w wr := HBW.out.trans (hbel.mono (by omega))
          have HLEN := Lib.hid hlen; have HOX := Lib.hid hox; have HRO := Lib.hid hro; have HRB := Lib.hid hrb; have HTK := Lib.hid htk; have HBW' := Lib.hid hbw'
          clear htk hlen hox hro hrb hbw' hown hbel hoth HO HB hsl
          cases tk
          · have hos : o = sealL xs := HOT.out.same HTK.out.symm
            have hw0 : whyI o = 0 := by rw [hos]; exact whyI_seal xs
            have HOS := Lib.hid hos; have HW0 := Lib.hid hw0
            clear hos hw0
            go_wp2_with fail
            refine (open_all wr o (n + 4) HLEN.out HOX.out _ (some ⟨g, 0, none⟩) c4 HRO.out hcap (Nat.le_refl _) (by omega)).mono ?_
            rintro e wx ⟨A', m', c', rfl, hox, hbx, hmx⟩
            rw [HW0.out]
            obtain rfl : m' = n := by
              rcases hmx with ⟨_, h⟩ | ⟨h, _⟩
              · have := HLEN.out; omega
              · exact absurd HW0.out h
            rw [HOS.out, sealL_take HL.out] at hox
            have hrx : Reads wx wx.heap.size 1 A' m' (BS xs) := Reads.of_own hox
            have hrbx : Reads wx wx.heap.size 1 a0 m' (BS xs) := (HRB.out.below hbx).more hbx.size
            have HRX := Lib.hid hrx; have HRBX := Lib.hid hrbx
            have HBX : Hid (Below w.heap.size w wx) := HBW'.out.trans (hbx.mono HBW'.out.size)
            clear hrx hrbx hbx hox hmx
            go_wp2_with fail
            refine (same_yes xs m' HL.out _ _ _ A' a0 c' cap0 HRX.out HRBX.out (by omega)).mono ?_
            rintro e wy ⟨rfl, ky, rfl⟩
            go_wp2_with fail
            refine (crc_lives _).mono ?_
            rintro e wl ⟨rfl, hbl⟩
            go_wp2_with fail
            go_ret
            exact ⟨rfl, (below_drews HBX.out ky).trans (hbl.mono HBX.out.size)⟩
          · have hw4 : whyI o = 4 := seal_turned HL.out HX.out HDL.out HOT.out hk (by omega) HTK.out.symm
            have HW4 := Lib.hid hw4
            clear hw4
            go_wp2_with fail
            refine (open_all wr o (n + 4) HLEN.out HOX.out _ (some ⟨g, 0, none⟩) c4 HRO.out hcap (Nat.le_refl _) (by omega)).mono ?_
            rintro e wx ⟨A', m', c', rfl, hox, hbx, hmx⟩
            rw [HW4.out]
            obtain rfl : m' = 0 := by
              rcases hmx with ⟨h, _⟩ | ⟨_, h⟩
              · rw [HW4.out] at h; omega
              · exact h
            have HBX : Hid (Below w.heap.size w wx) := HBW'.out.trans (hbx.mono HBW'.out.size)
            clear hbx hox hmx
            go_wp2_with fail
            refine (crc_lives _).mono ?_
            rintro e wl ⟨rfl, hbl⟩
            go_wp2_with fail
            go_ret
            exact ⟨rfl, HBX.out.trans (hbl.mono HBX.out.size)⟩
    · have d37 : decide (n ≤ p) = true := by simp; omega
      go_wp2_with fail
      rw [hp]
      clear hp
      go_loopw [9, 10] (fun t i wr => ∃ k : Nat, k ≤ 4 ∧ p + k ≤ (n + 4) ∧ i = .int .i64 (k : Int) ∧ TurnRel w wb xs n p D g c4 k t wr) (fun _ i _ => 4 - (intOf i).toNat)
      case atStart => exact ⟨0, by omega, by omega, rfl, hrel0.out⟩
      case round =>
        obtain ⟨k, hk, hpk, rfl, o, ht, hoth, hown, hbel⟩ := hrel
        have zr := hbel.size
        have HO := Lib.hid hown; have HB := Lib.hid hbel; have HOT := Lib.hid hoth
        obtain ⟨tk, htk⟩ : ∃ tk, tk = anyD D k := ⟨_, rfl⟩
        rw [← htk] at ht
        subst ht
        have hsl : (sealL xs).length = n + 4 := by rw [sealL_length, HL.out]
        by_cases hk4 : k < 4
        · by_cases hkn : p + k < (n + 4)
          · have hdk : D[k]? = some (D.getD k 0) := by
              rw [List.getD_eq_getElem?_getD, List.getElem?_eq_getElem (by rw [HD4.out]; exact hk4)]; rfl
            have dk256 := HDL.out k
            have hkl : p + k < (sealL xs).length := by omega
            have hstep := hoth.step (k := k) hkl
            have hany : anyD D (k + 1) = (tk || (D.getD k 0 != 0)) := by rw [htk]; rfl
            have hcd : wb.cell? ⟨w.heap.size, k, none⟩ = some (.int .u8 ((D.getD k 0 : Nat) : Int)) := by rw [HCD.out, BS, List.getElem?_map, hdk]; rfl
            generalize D.getD k 0 = dk at hdk dk256 hstep hany hcd
            have hok : o[p + k]? = some ((sealL xs)[p + k]) := by rw [hoth.2, if_neg (by omega), List.getElem?_eq_getElem hkl]
            have hx256 : (sealL xs)[p + k] < 256 := sealL_lt HX.out _ (List.getElem_mem _)
            generalize (sealL xs)[p + k] = x at hx256 hstep hok
            obtain ⟨y, hy⟩ : ∃ y, y = x ^^^ dk := ⟨_, rfl⟩
            have e1 := u8_xor_nat x dk hx256 dk256
            rw [← hy] at e1 hstep
            have c1 : wr.cell? ⟨w.heap.size, k, none⟩ = some (.int .u8 (dk : Int)) := (hbel.cell (by show w.heap.size < w.heap.size + 1; omega)).trans hcd
            have c2 : wr.cell? ⟨g, p + k, none⟩ = some (.int .u8 (x : Int)) := by
              rw [hown.cellAt (p + k) (by omega), BS, List.getElem?_map, hok]; rfl
            have f2 := hown.frozenAt (p + k)
            have hst : (wr.setCell ⟨g, p + k, none⟩ (.int .u8 (y : Int))).ownsRow (w.heap.size + 1) 5 1 (.slice (some ⟨g, 0, none⟩) (n + 4) c4) (n + 4) (BS (o.set (p + k) y)) := by
              have := (hown.stored (p + k) (.int .u8 (y : Int))).1
              rwa [show (BS o).set (p + k) (.int .u8 (y : Int)) = BS (o.set (p + k) y) by simp [BS, B, List.map_set]] at this
            have hbl : Below (w.heap.size + 1) wb (wr.setCell ⟨g, p + k, none⟩ (.int .u8 (y : Int))) := hbel.setCell (p := ⟨g, p + k, none⟩) hgb _
            have HBL := Lib.hid hbl
            have hne1 : (⟨g, p + k, none⟩ : Addr) ≠ ⟨w.heap.size, k, none⟩ := fun e => by injection e with e; omega
            have s1 : (wr.setCell ⟨g, p + k, none⟩ (.int .u8 (y : Int))).cell? ⟨w.heap.size, k, none⟩ = some (.int .u8 (dk : Int)) := by
              first
                | exact (World.cell?_setCell_other wr _ _ _ hne1).trans c1
                | exact (World.cell?_setCell_other wr _ _ _ hne1.symm).trans c1
            have HST := Lib.hid hst; have HSTEP := Lib.hid hstep; have HANY := Lib.hid hany; have HTK := Lib.hid htk; have HY := Lib.hid hy
            have i1 : (0 : Int) ≤ (p : Int) + (k : Int) := by omega
            have i2 : (p : Int) + (k : Int) < (n : Int) + 4 := by omega
            have i3 : ((p : Int) + (k : Int)).toNat = p + k := by omega
            have i4 : (0 : Int) ≤ (k : Int) := by omega
            have i5 : (k : Int) < 4 := by omega
            have i6 : IntKind.i64.wrap ((p : Int) + (k : Int)) = (p : Int) + (k : Int) := IntWalk.i64_in _ (by omega)
            clear htk hbl hst hstep hany hy hcd hdk hown hbel hoth hkl hok hsl
            go_wp2_with fail
            go_region
            clear i1 i2 i3 i6 c1 c2 f2 hne1 e1
            cases tk
            · by_cases hdz : dk = 0
              · subst hdz
                go_wp2_with fail
                exact ⟨⟨k + 1, by omega, by omega, by go_num, o.set (p + k) y, by rw [HANY.out]; rfl, HSTEP.out, HST.out, HBL.out.drew⟩, by simp [intOf]; omega⟩
              · have hnz : ((dk : Int) != 0) = true := by
                  have : ¬ ((dk : Int) = 0) := by omega
                  simpa using this
                have hnn : (dk != 0) = true := by simpa using hdz
                have HNN := Lib.hid hnn
                clear hnn hdz
                go_wp2_with fail
                exact ⟨⟨k + 1, by omega, by omega, by go_num, o.set (p + k) y, by rw [HANY.out, HNN.out]; rfl, HSTEP.out, HST.out, HBL.out.drew⟩, by simp [intOf]; omega⟩
            · go_wp2_with fail
              exact ⟨⟨k + 1, by omega, by omega, by go_num, o.set (p + k) y, by rw [HANY.out, Bool.true_or], HSTEP.out, HST.out, HBL.out.drew⟩, by simp [intOf]; omega⟩
          · have hlen : o.length = n + 4 := by rw [hoth.1, hsl]
            have hox := hoth.lt (sealL_lt HX.out) HDL.out
            have hro : Reads wr wr.heap.size 1 (some ⟨g, 0, none⟩) (n + 4) (BS o) := Reads.of_own hown
            have hrb : Reads wr wr.heap.size 1 a0 n (BS xs) := (HRW.out.keep fun q hq => hbel.cell (by omega)).more (by have := HZW.out; omega)
            have hbw' : Below w.heap.size w wr := HBW.out.trans (hbel.mono (by omega))
            have HLEN := Lib.hid hlen; have HOX := Lib.hid hox; have HRO := Lib.hid hro; have HRB := Lib.hid hrb; have HTK := Lib.hid htk; have HBW' := Lib.hid hbw'
            clear htk hlen hox hro hrb hbw' hown hbel hoth HO HB hsl
            cases tk
            · have hos : o = sealL xs := HOT.out.same HTK.out.symm
              have hw0 : whyI o = 0 := by rw [hos]; exact whyI_seal xs
              have HOS := Lib.hid hos; have HW0 := Lib.hid hw0
              clear hos hw0
              go_wp2_with fail
              refine (open_all wr o (n + 4) HLEN.out HOX.out _ (some ⟨g, 0, none⟩) c4 HRO.out hcap (Nat.le_refl _) (by omega)).mono ?_
              rintro e wx ⟨A', m', c', rfl, hox, hbx, hmx⟩
              rw [HW0.out]
              obtain rfl : m' = n := by
                rcases hmx with ⟨_, h⟩ | ⟨h, _⟩
                · have := HLEN.out; omega
                · exact absurd HW0.out h
              rw [HOS.out, sealL_take HL.out] at hox
              have hrx : Reads wx wx.heap.size 1 A' m' (BS xs) := Reads.of_own hox
              have hrbx : Reads wx wx.heap.size 1 a0 m' (BS xs) := (HRB.out.below hbx).more hbx.size
              have HRX := Lib.hid hrx; have HRBX := Lib.hid hrbx
              have HBX : Hid (Below w.heap.size w wx) := HBW'.out.trans (hbx.mono HBW'.out.size)
              clear hrx hrbx hbx hox hmx
              go_wp2_with fail
              refine (same_yes xs m' HL.out _ _ _ A' a0 c' cap0 HRX.out HRBX.out (by omega)).mono ?_
              rintro e wy ⟨rfl, ky, rfl⟩
              go_wp2_with fail
              refine (crc_lives _).mono ?_
              rintro e wl ⟨rfl, hbl⟩
              go_wp2_with fail
              go_ret
              exact ⟨rfl, (below_drews HBX.out ky).trans (hbl.mono HBX.out.size)⟩
            · have hw4 : whyI o = 4 := seal_turned HL.out HX.out HDL.out HOT.out hk (by omega) HTK.out.symm
              have HW4 := Lib.hid hw4
              clear hw4
              go_wp2_with fail
              refine (open_all wr o (n + 4) HLEN.out HOX.out _ (some ⟨g, 0, none⟩) c4 HRO.out hcap (Nat.le_refl _) (by omega)).mono ?_
              rintro e wx ⟨A', m', c', rfl, hox, hbx, hmx⟩
              rw [HW4.out]
              obtain rfl : m' = 0 := by
                rcases hmx with ⟨h, _⟩ | ⟨_, h⟩
                · rw [HW4.out] at h; omega
                · exact h
              have HBX : Hid (Below w.heap.size w wx) := HBW'.out.trans (hbx.mono HBW'.out.size)
              clear hbx hox hmx
              go_wp2_with fail
              refine (crc_lives _).mono ?_
              rintro e wl ⟨rfl, hbl⟩
              go_wp2_with fail
              go_ret
              exact ⟨rfl, HBX.out.trans (hbl.mono HBX.out.size)⟩
        · have hlen : o.length = n + 4 := by rw [hoth.1, hsl]
          have hox := hoth.lt (sealL_lt HX.out) HDL.out
          have hro : Reads wr wr.heap.size 1 (some ⟨g, 0, none⟩) (n + 4) (BS o) := Reads.of_own hown
          have hrb : Reads wr wr.heap.size 1 a0 n (BS xs) := (HRW.out.keep fun q hq => hbel.cell (by omega)).more (by have := HZW.out; omega)
          have hbw' : Below w.heap.size w wr := HBW.out.trans (hbel.mono (by omega))
          have HLEN := Lib.hid hlen; have HOX := Lib.hid hox; have HRO := Lib.hid hro; have HRB := Lib.hid hrb; have HTK := Lib.hid htk; have HBW' := Lib.hid hbw'
          clear htk hlen hox hro hrb hbw' hown hbel hoth HO HB hsl
          cases tk
          · have hos : o = sealL xs := HOT.out.same HTK.out.symm
            have hw0 : whyI o = 0 := by rw [hos]; exact whyI_seal xs
            have HOS := Lib.hid hos; have HW0 := Lib.hid hw0
            clear hos hw0
            go_wp2_with fail
            refine (open_all wr o (n + 4) HLEN.out HOX.out _ (some ⟨g, 0, none⟩) c4 HRO.out hcap (Nat.le_refl _) (by omega)).mono ?_
            rintro e wx ⟨A', m', c', rfl, hox, hbx, hmx⟩
            rw [HW0.out]
            obtain rfl : m' = n := by
              rcases hmx with ⟨_, h⟩ | ⟨h, _⟩
              · have := HLEN.out; omega
              · exact absurd HW0.out h
            rw [HOS.out, sealL_take HL.out] at hox
            have hrx : Reads wx wx.heap.size 1 A' m' (BS xs) := Reads.of_own hox
            have hrbx : Reads wx wx.heap.size 1 a0 m' (BS xs) := (HRB.out.below hbx).more hbx.size
            have HRX := Lib.hid hrx; have HRBX := Lib.hid hrbx
            have HBX : Hid (Below w.heap.size w wx) := HBW'.out.trans (hbx.mono HBW'.out.size)
            clear hrx hrbx hbx hox hmx
            go_wp2_with fail
            refine (same_yes xs m' HL.out _ _ _ A' a0 c' cap0 HRX.out HRBX.out (by omega)).mono ?_
            rintro e wy ⟨rfl, ky, rfl⟩
            go_wp2_with fail
            refine (crc_lives _).mono ?_
            rintro e wl ⟨rfl, hbl⟩
            go_wp2_with fail
            go_ret
            exact ⟨rfl, (below_drews HBX.out ky).trans (hbl.mono HBX.out.size)⟩
          · have hw4 : whyI o = 4 := seal_turned HL.out HX.out HDL.out HOT.out hk (by omega) HTK.out.symm
            have HW4 := Lib.hid hw4
            clear hw4
            go_wp2_with fail
            refine (open_all wr o (n + 4) HLEN.out HOX.out _ (some ⟨g, 0, none⟩) c4 HRO.out hcap (Nat.le_refl _) (by omega)).mono ?_
            rintro e wx ⟨A', m', c', rfl, hox, hbx, hmx⟩
            rw [HW4.out]
            obtain rfl : m' = 0 := by
              rcases hmx with ⟨h, _⟩ | ⟨_, h⟩
              · rw [HW4.out] at h; omega
              · exact h
            have HBX : Hid (Below w.heap.size w wx) := HBW'.out.trans (hbx.mono HBW'.out.size)
            clear hbx hox hmx
            go_wp2_with fail
            refine (crc_lives _).mono ?_
            rintro e wl ⟨rfl, hbl⟩
            go_wp2_with fail
            go_ret
            exact ⟨rfl, HBX.out.trans (hbl.mono HBX.out.size)⟩

set_option maxRecDepth 100000 in
theorem lifted (os : Os) (started : os.Started) (H : Type) (enc : TypeId × Value → H) :
    ReturnsInHanded {} Try.checked os 6 .any (Rows.crcTurnsSpec.pre6 enc Try.prog Try.f6 Rows.crcTurnsRow.domain false) (Rows.crcTurnsSpec.post enc Try.prog Try.f6 false true false false) := by
  refine returnsInHanded_of_change (C := Try.checked) own started (by kernel_rfl) Try.func6
    (ChangeSpec.witness6 (enc := enc) (C := Try.checked) false ⟨#[], #[.slice none 0 0, .int .i64 0, .agg #[.int .u8 0, .int .u8 0, .int .u8 0, .int .u8 0]], []⟩ 8 (by kernel_rfl) (by kernel_rfl) (by kernel_rfl) (by kernel_rfl)) ?_
  intro W base args ds gs before hval0 hW hcnd _
  have hval : ∀ (j : Nat) t v, Try.f6.params[j]? = some t → args[j]? = some v → Value.okWide Try.prog W .any base t v := hval0
  have hW' := hW
  obtain ⟨p, q, hA0, hV, rfl, hfz, hnd⟩ := hW
  have hA : DataW.TrodAll enc Try.prog W 0 (fun _ => true) true Try.f6.params.toList args.toList ds p := hA0
  rw [Try.params6] at hA hval
  obtain ⟨v0, vs0, d0, ds0, p0, q0, hargs, rfl, rfl, h0, r0⟩ := trodAll_cons hA
  obtain ⟨v1, vs1, d1, ds1, p1, q1, rfl, rfl, rfl, h1, r1⟩ := trodAll_cons r0
  obtain ⟨v2, vs2, d2, ds2, p2, q2, rfl, rfl, rfl, h2, r2⟩ := trodAll_cons r1
  obtain ⟨rfl, rfl, rfl⟩ := trodAll_nil r2
  obtain rfl : args = #[v0, v1, v2] := by cases args; simp_all
  obtain ⟨rfl, rfl⟩ := trodVars_none hV
  obtain ⟨a0, len0, cap0, rfl⟩ := okWide_slice Try.underlying22 (hval 0 22 v0 rfl rfl)
  have k0 := h0
  have lt0 : ∀ x ∈ p0, x.block < W.heap.size := by obtain ⟨m, hm⟩ := k0; exact DataW.trod_lt m _ _ _ hm
  obtain ⟨z0, w0⟩ : ∃ zs, IsRow .u8 W a0 len0 cap0 zs := by
    obtain ⟨fuel, hf⟩ := h0
    rcases open_ints Try.underlying22 Try.underlying5 (by kernel_rfl) hf with ⟨hcs, _⟩ | ⟨x, l, c, zs, hcs, _, hl, hm, hz, _, hcell, hwz⟩
    · simp [Value.cells] at hcs
      obtain ⟨rfl, rfl, rfl⟩ := hcs
      exact ⟨[], .inl ⟨rfl, rfl, rfl, rfl⟩⟩
    · simp [Value.cells] at hcs
      obtain ⟨rfl, rfl, rfl⟩ := hcs
      exact ⟨zs, .inr ⟨_, rfl, hl, hm, by simpa using hz, hcell, hwz⟩⟩
  obtain ⟨a1, rfl, rfl, rfl, w1⟩ := open_int Try.underlying3 (hval 1 3 v1 rfl rfl) h1
  have k2 := h2
  have lt2 : ∀ x ∈ p2, x.block < W.heap.size := by obtain ⟨m, hm⟩ := k2; exact DataW.trod_lt m _ _ _ hm
  obtain ⟨x2, y2, z2, u2, ecs2, w2⟩ := open_arr4 (hval 2 34 v2 rfl rfl) h2
  subst ecs2
  clear hA0 hval0
  refine (walk a0 len0 cap0 z0 a1 x2 y2 z2 u2 W w0 w1 w2).mono fun e W' ⟨he, bel⟩ => ?_
  subst he
  exact ⟨_, rfl, _, _, _, [], _, [], hW', trodAll_mk1 (shut_bool Try.underlying4 _), (trodAll_cons_mk (Below.trod laidOut (by kernel_rfl) (of_decide_eq_true (by kernel_rfl)) k0 bel lt0) (trodAll_cons_mk (shut_int Try.underlying3 w1) (trodAll_cons_mk (Below.trod laidOut (by kernel_rfl) (of_decide_eq_true (by kernel_rfl)) k2 bel lt2) trodAll_mk0))), rfl, bel.frame _, fun h => by cases h⟩

theorem over : Rows.crcTurnsRow.holds Try.pinned (OpenSpec.ofChange Rows.crcTurnsSpec) :=
  OpenClaim.holds_of_wide 6 Try.f6 rfl rfl rfl rfl rfl rfl rfl ⟨rfl, rfl, rfl, rfl, rfl⟩ rfl rfl rfl rfl rfl (by kernel_rfl) Try.func6 (by kernel_rfl)
    (of_decide_eq_true (by kernel_rfl)) (by unfold Func.isWrapper; first | (rw [if_pos (by decide +kernel)]; kernel_rfl) | (rw [if_neg (by decide +kernel)]; exact ⟨rfl, rfl⟩))
    (fun os started H enc _ => lifted os started H enc)

theorem proved : Rows.CrcTurnsSaid := over
#print axioms proved
end Go.Proofs.Ytjhgegoipnjgmaa.crcTurns
