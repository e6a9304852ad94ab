/-
  What was sealed, opened; why bytes are no seal, as the document says.
-/
import Derived.Test.YtjhgegoipnjgmaaCrcSeal
import Derived.Test.YtjhgegoipnjgmaaPureRs
import Derived.Deep.RegionHeld3
import Derived.Deep.DrawnRows
namespace Go.Proofs.Ytjhgegoipnjgmaa
open Go.RowKit Plain

theorem fixedL_leV (l : List Nat) (h : ∀ x ∈ l, x < 256) : fixedL (leV l) l.length = l := by
  induction l with
  | nil => rfl
  | cons x r ih =>
    have hx := h x (by simp)
    have h1 := ih (fun y hy => h y (by simp [hy]))
    rw [List.length_cons, fixedL, leV, show (x + 256 * leV r) % 256 = x by omega, show (x + 256 * leV r) / 256 = leV r by omega, h1]
theorem pow_le_3 {k : Nat} (h : k ≤ 3) : (256 : Nat) ^ k ≤ 16777216 := by
  have : (256 : Nat) ^ k ≤ 256 ^ 3 := Nat.pow_le_pow_right (by omega) h
  have e : (256 : Nat) ^ 3 = 16777216 := by decide
  omega
/-- A byte put ahead of what has been read. -/
theorem u32_or_shl (v x k : Nat) (hv : v < 256 ^ k) (hx : x < 256) (hk : k ≤ 3) : bits .or .u32 (v : Int) ((x : Int) * 2 ^ (8 * k) % 4294967296) = ((v + x * 256 ^ k : Nat) : Int) := by
  have hp := pow_le_3 hk
  have h1 : x * 256 ^ k ≤ 255 * 16777216 := Nat.mul_le_mul (by omega) hp
  have e : (x : Int) * 2 ^ (8 * k) % 4294967296 = ((x * 256 ^ k : Nat) : Int) := by
    rw [show (2 : Int) ^ (8 * k) = ((2 ^ (8 * k) : Nat) : Int) by simp, pow8, ← Int.natCast_mul]
    omega
  rw [e, u32_or_nat _ _ (by omega) (by omega)]
  congr 1
  rw [← pow8] at hv ⊢
  have := Nat.two_pow_add_eq_or_of_lt hv x
  rw [Nat.or_comm, Nat.mul_comm, ← this, Nat.add_comm]

set_option maxHeartbeats 400000 in
theorem sealedSum_any (w : World) (xs : List Nat) (m : Nat) (hl : xs.length = m) (hx : ∀ x ∈ xs, x < 256) (BB : Nat) (A : Option Addr) (c : Nat) (hrd : Reads w BB 1 A m (BS xs)) (hn : m ≤ 4) :
    Calls Try.prog 24 #[.slice A m c] w fun e w' => e = .returned (.int .u32 ((leV xs : Nat) : Int)) ∧ w = w' := by
  have HRD := Lib.hid hrd
  have HL := Lib.hid hl
  have HX := Lib.hid hx
  clear hrd hl hx
  go_enter Try.func24, Try.ntmps24
  go_wp2_with fail
  go_loopw [3, 4, 5, 8] (fun q u v i wr => ∃ k : Nat, k ≤ m ∧ i = .int .i64 (k : Int) ∧ q = .int .u32 ((leV (xs.take k) : Nat) : Int) ∧ w = wr) (fun _ _ _ i _ => m - (intOf i).toNat)
  case atStart => exact ⟨0, by omega, rfl, rfl, rfl⟩
  case round =>
    obtain ⟨k, hk, rfl, rfl, rfl⟩ := hrel
    by_cases hlt : k < m
    · obtain ⟨ad, v, rfl, _, hu, hcell⟩ := HRD.out.at_ hlt
      have hkl : k < xs.length := by rw [HL.out]; exact hlt
      obtain ⟨x, hxe⟩ : ∃ x, x = xs[k] := ⟨_, rfl⟩
      have hv : v = .int .u8 (x : Int) := by
        simp only [BS, List.getElem?_map, List.getElem?_eq_getElem hkl, Option.map_some, Option.some.injEq] at hu
        rw [← hu, hxe]; rfl
      subst hv
      have hx256 : x < 256 := by rw [hxe]; exact HX.out _ (List.getElem_mem _)
      have htl : (xs.take k).length = k := List.length_take_of_le (by omega)
      have hvl := leV_lt (xs.take k) (fun y hy => HX.out y (List.mem_of_mem_take hy))
      have hsn : leV (xs.take (k + 1)) = leV (xs.take k) + x * 256 ^ k := by
        rw [List.take_succ_eq_append_getElem hkl, leV_snoc, htl, hxe]
      rw [htl] at hvl
      have hvl4 : leV (xs.take k) < 4294967296 := by have := pow_le_3 (k := k) (by omega); omega
      generalize leV (xs.take k) = q at hvl hsn hvl4
      have e1 := u32_or_shl q x k hvl hx256 (by omega)
      rw [← hsn] at e1
      have HSN := Lib.hid hsn
      have HXE := Lib.hid hxe
      have HVL := Lib.hid hvl
      clear hsn hxe hu hvl htl
      go_wp2_with fail
      exact ⟨⟨k + 1, by omega, by go_num, rfl, trivial⟩, by simp [intOf]; omega⟩
    · obtain rfl : k = m := by omega
      have hall : xs.take k = xs := List.take_of_length_le (by rw [HL.out]; omega)
      rw [hall]
      clear hall
      go_wp2_with fail
      go_ret
      exact ⟨rfl, rfl⟩

/-- Why bytes are no seal: 2, too few; 4, another sum; 0, they are. -/
def whyL (b : List Nat) : Nat := if b.length < 4 then 2 else if b = sealL (b.take (b.length - 4)) then 0 else 4

theorem why_split (b : List Nat) (p : Nat) (h : b.length = p + 4) (hx : ∀ x ∈ b, x < 256) : whyL b = if crcL (b.take p) = leV (b.drop p) then 0 else 4 := by
  unfold whyL
  rw [if_neg (by omega), show b.length - 4 = p by omega]
  have hd : (b.drop p).length = 4 := by rw [List.length_drop]; omega
  have hdx : ∀ x ∈ b.drop p, x < 256 := fun x hm => hx x (List.mem_of_mem_drop hm)
  by_cases e : crcL (b.take p) = leV (b.drop p)
  · rw [if_pos e, if_pos]
    have := fixedL_leV (b.drop p) hdx
    rw [hd, ← e] at this
    rw [sealL, this, List.take_append_drop]
  · rw [if_neg e, if_neg]
    intro h2
    apply e
    have h3 : b.take p ++ b.drop p = b.take p ++ fixedL (crcL (b.take p)) 4 := by rw [List.take_append_drop]; exact h2
    have h4 := List.append_cancel_left h3
    rw [h4, leV_fixedL]
    exact (Nat.mod_eq_of_lt (crcL_lt _)).symm

set_option maxHeartbeats 400000 in
theorem open_short (w : World) (m : Nat) (A : Option Addr) (c : Nat) (hm : m < 4) :
    Calls Try.prog 19 #[.slice A m c] w fun e w' => e = .returned (.tuple #[.slice none 0 0, .int .i64 2]) ∧ w = w' := by
  go_enter Try.func19, Try.ntmps19
  go_wp2_with fail
  go_ret2
  exact ⟨rfl, rfl⟩

set_option maxRecDepth 100000 in
set_option maxHeartbeats 1000000 in
theorem open_sum (w : World) (b : List Nat) (p : Nat) (hl : b.length = p + 4) (hx : ∀ x ∈ b, x < 256) (BB : Nat) (A : Option Addr) (c : Nat) (hrd : Reads w BB 1 A (p + 4) (BS b)) (hc : p + 4 ≤ c) (hB : BB ≤ w.heap.size) (hn : p ≤ 65536) (hne : crcL (b.take p) ≠ leV (b.drop p)) :
    Calls Try.prog 19 #[.slice A ((p + 4 : Nat)) c] w fun e w' => e = .returned (.tuple #[.slice none 0 0, .int .i64 4]) ∧ Below w.heap.size w w' := by
  have htk : Reads w BB 1 A p (BS (b.take p)) := hrd.take (by omega)
  have hct : Reads w BB 1 (A.map (·.add p)) 4 (BS (b.drop p)) := by
    have := hrd.cut (k := p) (cap := c) (by omega) hc
    rw [if_neg (by omega), Nat.mul_one, show p + 4 - p = 4 by omega] at this
    simpa [BS, List.map_drop] using this
  have hdl : (b.drop p).length = 4 := by rw [List.length_drop]; omega
  have hdx : ∀ x ∈ b.drop p, x < 256 := fun x hm => hx x (List.mem_of_mem_drop hm)
  have htl : (b.take p).length = p := List.length_take_of_le (by omega)
  have htx : ∀ x ∈ b.take p, x < 256 := fun x hm => hx x (List.mem_of_mem_take hm)
  have hfb : decide (crcL (b.take p) = leV (b.drop p)) = false := by simpa using hne
  have HTK := Lib.hid htk
  have HCT := Lib.hid hct
  have HDL := Lib.hid hdl
  have HDX := Lib.hid hdx
  have HTL := Lib.hid htl
  have HTX := Lib.hid htx
  have HFB := Lib.hid hfb
  clear hrd hl hx hne htk hct hdl hdx htl htx hfb
  have hcp : ¬ c = p := by omega
  have i0 : (0 : Int) ≤ (p : Int) := by omega
  have i1 : (p : Int) ≤ (c : Int) := by omega
  have i2 : (p : Int) ≤ (p : Int) + 4 := by omega
  go_enter Try.func19, Try.ntmps19
  go_wp2_with fail
  go_region_held3 (fun _ => True) (trivial)
    (first
      | (go_simp; go_at_call 24; refine (sealedSum_any _ (b.drop p) 4 HDL.out HDX.out BB _ _ HCT.out.drew (by omega)).mono ?_; rintro e w1 ⟨rfl, rfl⟩)
      | (go_simp; go_at_call 16; refine (fits_any _ (b.take p) p HTL.out HTX.out BB _ _ HTK.out.drew hB (by omega) (leV (b.drop p)) false HFB.out).mono ?_; rintro e w1 ⟨rfl, hb1⟩))
  have HB1 := Lib.hid hb1
  clear hb1
  go_wp2_with fail
  go_ret2
  exact ⟨rfl, (Below.refl _ w).drew.trans HB1.out⟩

set_option maxRecDepth 100000 in
set_option maxHeartbeats 1000000 in
theorem open_yes (w : World) (b : List Nat) (p : Nat) (hl : b.length = p + 4) (hx : ∀ x ∈ b, x < 256) (BB : Nat) (A : Option Addr) (c : Nat) (hrd : Reads w BB 1 A (p + 4) (BS b)) (hc : p + 4 ≤ c) (hB : BB ≤ w.heap.size) (hn : p ≤ 65536) (hne : crcL (b.take p) = leV (b.drop p)) :
    Calls Try.prog 19 #[.slice A ((p + 4 : Nat)) c] w fun e w' => ∃ A' c', e = .returned (.tuple #[.slice A' p c', .int .i64 0]) ∧ Made w.heap.size (b.take p) (.slice A' p c') w w' := by
  obtain ⟨i0', hi0, hz0, hz1, hz2⟩ := info_parts info_byte
  have htk : Reads w BB 1 A p (BS (b.take p)) := hrd.take (by omega)
  have hct : Reads w BB 1 (A.map (·.add p)) 4 (BS (b.drop p)) := by
    have := hrd.cut (k := p) (cap := c) (by omega) hc
    rw [if_neg (by omega), Nat.mul_one, show p + 4 - p = 4 by omega] at this
    simpa [BS, List.map_drop] using this
  have hdl : (b.drop p).length = 4 := by rw [List.length_drop]; omega
  have hdx : ∀ x ∈ b.drop p, x < 256 := fun x hm => hx x (List.mem_of_mem_drop hm)
  have htl : (b.take p).length = p := List.length_take_of_le (by omega)
  have htx : ∀ x ∈ b.take p, x < 256 := fun x hm => hx x (List.mem_of_mem_take hm)
  have hfb : decide (crcL (b.take p) = leV (b.drop p)) = true := by simpa using hne
  have HTK := Lib.hid htk
  have HCT := Lib.hid hct
  have HDL := Lib.hid hdl
  have HDX := Lib.hid hdx
  have HTL := Lib.hid htl
  have HTX := Lib.hid htx
  have HFB := Lib.hid hfb
  clear hrd hl hx hne htk hct hdl hdx htl htx hfb
  have hcp : ¬ c = p := by omega
  have i0 : (0 : Int) ≤ (p : Int) := by omega
  have i1 : (p : Int) ≤ (c : Int) := by omega
  have i2 : (p : Int) ≤ (p : Int) + 4 := by omega
  go_enter Try.func19, Try.ntmps19
  go_wp2_with fail
  go_region_held3 (fun _ => True) (trivial)
    (first
      | (go_simp; go_at_call 24; refine (sealedSum_any _ (b.drop p) 4 HDL.out HDX.out BB _ _ HCT.out.drew (by omega)).mono ?_; rintro e w1 ⟨rfl, rfl⟩)
      | (go_simp; go_at_call 16; refine (fits_any _ (b.take p) p HTL.out HTX.out BB _ _ HTK.out.drew hB (by omega) (leV (b.drop p)) true HFB.out).mono ?_; rintro e w1 ⟨rfl, hb1⟩))
  have hbw : Below w.heap.size w w1 := (Below.refl _ w).drew.trans hb1
  have z1 := hbw.size
  have htk1 := HTK.out.keep (w' := w1) fun q hq => hbw.cell (by omega)
  have HBW := Lib.hid hbw
  have HTK1 := Lib.hid htk1
  clear hb1 hbw htk1
  go_wp2_with (at_builtin; go_must (refine wpList_append_any _ rfl (.const (.slice none 0 0)) (.tmp 21) _ rfl w.heap.size 5 i0' _ 1 1 Try.underlying22 hi0 hz0 hz1 hz2 rfl (by decide) (.slice none 0 0) 0 [] rfl (World.ownsRow_nil _ _ _ _) BB A p c (BS (b.take p)) rfl HTK1.out (BS_one _) ?c1 ?c2 z1 ?k))
  case c1 => unfold maxLen; omega
  case c2 => omega
  case k =>
  intro v' w2 hown2 hg2 hat2
  obtain ⟨A', c', rfl, _⟩ := reads_own hown2
  have HO2 := Lib.hid hown2
  have HG2 := Lib.hid hg2
  clear hown2 hg2 hat2
  go_wp2_with fail
  go_ret2
  refine ⟨A', c', rfl, ?_, HBW.out.grown HG2.out z1 (by simp [Value.ownBlock])⟩
  rw [HTL.out]
  simpa using HO2.out

set_option maxRecDepth 100000 in
set_option maxHeartbeats 400000 in
theorem why_short (w : World) (m : Nat) (A : Option Addr) (c : Nat) (hm : m < 4) :
    Calls Try.prog 20 #[.slice A m c] w fun e w' => e = .returned (.int .i64 2) ∧ w = w' := by
  go_enter Try.func20, Try.ntmps20
  go_wp2_with fail
  go_ret
  exact ⟨rfl, rfl⟩

def whyAt (b : List Nat) (p : Nat) : Int := if b = sealL (b.take p) then 0 else 4
/-- Where the document's comparison stands: the bytes ahead of k are the same. -/
def AgreeTo (b s : List Nat) (k : Nat) : Prop := b.take k = s.take k

set_option maxRecDepth 100000 in
set_option maxHeartbeats 1000000 in
theorem why_long (w : World) (b : List Nat) (p : Nat) (hl : b.length = p + 4) (hx : ∀ x ∈ b, x < 256) (BB : Nat) (A : Option Addr) (c : Nat) (hrd : Reads w BB 1 A (p + 4) (BS b)) (hc : p + 4 ≤ c) (hB : BB ≤ w.heap.size) (hn : p ≤ 65536) :
    Calls Try.prog 20 #[.slice A ((p + 4 : Nat)) c] w fun e w' => e = .returned (.int .i64 (whyAt b p)) ∧ Below w.heap.size w w' := by
  have htk : Reads w BB 1 A p (BS (b.take p)) := hrd.take (by omega)
  have htl : (b.take p).length = p := List.length_take_of_le (by omega)
  have htx : ∀ x ∈ b.take p, x < 256 := fun x hm => hx x (List.mem_of_mem_take hm)
  have HRD := Lib.hid hrd
  have HL := Lib.hid hl
  have HX := Lib.hid hx
  have HTK := Lib.hid htk
  have HTL := Lib.hid htl
  have HTX := Lib.hid htx
  clear hrd hl hx htk htl htx
  have i0 : (0 : Int) ≤ (p : Int) := by omega
  have i1 : (p : Int) ≤ (c : Int) := by omega
  go_enter Try.func20, Try.ntmps20
  go_wp2_with fail
  refine (ref_seal w (b.take p) p HTL.out HTX.out BB _ _ HTK.out hB hn).mono ?_
  rintro e w1 ⟨A1, c1, rfl, hown, hbel⟩
  rw [sealL_length, HTL.out] at hown
  obtain ⟨_, _, hv1, hrs⟩ := reads_own hown
  injection hv1 with hv1 _ hv2
  subst hv1 hv2
  have z1 := hbel.size
  have hrd1 := HRD.out.keep (w' := w1) fun q hq => hbel.cell (by omega)
  have hsl : (sealL (b.take p)).length = p + 4 := by rw [sealL_length, HTL.out]
  have hsx : ∀ x ∈ sealL (b.take p), x < 256 := by
    intro x hm
    rcases List.mem_append.1 hm with hm | hm
    · exact HTX.out x hm
    · exact fixedL_lt 4 _ x hm
  have HRS := Lib.hid hrs
  have HRD1 := Lib.hid hrd1
  have HB1 := Lib.hid hbel
  have HSL := Lib.hid hsl
  clear hown hbel hrs hrd1 hsl
  obtain ⟨s, hs⟩ : ∃ s, s = sealL (b.take p) := ⟨_, rfl⟩
  rw [← hs] at HRS HSL hsx
  have HS := Lib.hid hs
  have HSX := Lib.hid hsx
  clear hs hsx
  go_wp2_with fail
  go_loopw [4] (fun i wr => ∃ k d : Nat, k ≤ p + 4 ∧ i = .int .i64 (k : Int) ∧ AgreeTo b s k ∧ wr = w1.drewN d) (fun i _ => p + 4 - (intOf i).toNat)
  case atStart => exact ⟨0, 0, by omega, rfl, rfl, rfl⟩
  case round =>
    obtain ⟨k, d, hk, rfl, hag, rfl⟩ := hrel
    have HAG := Lib.hid hag
    clear hag
    by_cases hlt : k < p + 4
    · obtain ⟨ad, u, rfl, _, hu, hcell⟩ := HRS.out.at_ hlt
      obtain ⟨ad', u', rfl, _, hu', hcell'⟩ := HRD1.out.at_ hlt
      have hsk : k < s.length := by rw [HSL.out]; exact hlt
      have hbk : k < b.length := by rw [HL.out]; exact hlt
      obtain ⟨x, hxe⟩ : ∃ x, x = s[k] := ⟨_, rfl⟩
      obtain ⟨y, hye⟩ : ∃ y, y = b[k] := ⟨_, rfl⟩
      have hv : u = .int .u8 (x : Int) := by
        simp only [BS, List.getElem?_map, List.getElem?_eq_getElem hsk, Option.map_some, Option.some.injEq] at hu
        rw [← hu, hxe]; rfl
      have hv' : u' = .int .u8 (y : Int) := by
        simp only [BS, List.getElem?_map, List.getElem?_eq_getElem hbk, Option.map_some, Option.some.injEq] at hu'
        rw [← hu', hye]; rfl
      subst hv hv'
      have HXE := Lib.hid hxe
      have HYE := Lib.hid hye
      have i3 : (0 : Int) ≤ (k : Int) := by omega
      have i4 : (k : Int) < (p : Int) + 4 := by omega
      clear hxe hye hu hu'
      by_cases hxy : x = y
      · subst hxy
        go_wp2_with fail
        go_quiet (fail)
        go_wp2_with fail
        refine ⟨⟨k + 1, _, by omega, by go_num, ?_, rfl⟩, by simp [intOf]; omega⟩
        unfold AgreeTo
        rw [List.take_succ_eq_append_getElem hbk, List.take_succ_eq_append_getElem hsk, ← HXE.out, ← HYE.out]
        have := HAG.out
        unfold AgreeTo at this
        rw [this]
      · have hne : ((x : Int) != (y : Int)) = true := by
          have : ¬ ((x : Int) = (y : Int)) := by omega
          simpa using this
        have HXY := Lib.hid hxy
        clear hxy
        go_wp2_with fail
        go_quiet (fail)
        go_wp2_with fail
        go_ret
        refine ⟨?_, below_drews (below_drews HB1.out d) _⟩
        rw [whyAt, ← HS.out, if_neg]
        · rfl
        · intro e
          refine HXY.out ?_
          rw [HXE.out, HYE.out]
          simp only [e]
    · obtain rfl : k = p + 4 := by omega
      have hbs : b = s := by
        have h := HAG.out
        unfold AgreeTo at h
        rwa [List.take_of_length_le (by rw [HL.out]; exact Nat.le_refl _), List.take_of_length_le (by rw [HSL.out]; exact Nat.le_refl _)] at h
      have HBS := Lib.hid hbs
      clear hbs
      go_wp2_with fail
      go_ret
      refine ⟨?_, below_drews HB1.out _⟩
      rw [whyAt, ← HS.out, if_pos HBS.out]
      rfl
end Go.Proofs.Ytjhgegoipnjgmaa
