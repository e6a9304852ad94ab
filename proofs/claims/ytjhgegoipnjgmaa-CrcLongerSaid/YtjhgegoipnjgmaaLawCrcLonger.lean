/-
  Proved here: CrcLonger returns true for every input: bytes ahead of a seal, or behind it, or fewer than it has, are told apart where the document's sum tells them apart.
-/
import Derived.Test.YtjhgegoipnjgmaaRows
import Derived.WalkKit
import Derived.ProofKit
import Derived.OpenShut
import Derived.ShutString
import Derived.ChangeOld
import Derived.Below
import Derived.Test.YtjhgegoipnjgmaaCrcAll
import Derived.Test.YtjhgegoipnjgmaaCrcLaw
namespace Go.Proofs.Ytjhgegoipnjgmaa.crcLonger
open Go.ChangeShapes Go.WideShapes Go.ChangeAt Go.RowKit Go.Proofs.Ytjhgegoipnjgmaa Go.Proofs.Ytjhgegoipnjgmaa.Plain
open Go.ChangeMaps (open_string shut_string)
set_option linter.unusedVariables false

theorem own : ownKnob Try.prog.godebug = none := by kernel_rfl
theorem laidOut : laidOutB Try.prog = true := by kernel_rfl

/-- A slice that may be opened: its bytes. -/
def Any (w : World) (A : Option Addr) (n c : Nat) (xs : List Nat) : Prop := xs.length = n ∧ (∀ x ∈ xs, x < 256) ∧ n ≤ c ∧ n ≤ 65536 ∧ Reads w w.heap.size 1 A n (BS xs)
theorem Any.below {w w' : World} {A : Option Addr} {n c : Nat} {xs : List Nat} (h : Any w A n c xs) (hb : Below w.heap.size w w') : Any w' A n c xs :=
  ⟨h.1, h.2.1, h.2.2.1, h.2.2.2.1, (h.2.2.2.2.below hb).more hb.size⟩
theorem cut_nat (a : Int) (h1 : -9223372036854775808 ≤ a) (h2 : a ≤ 9223372036854775807) : (∃ u : Nat, a = -(u : Int) - 1 ∧ u ≤ 9223372036854775807) ∨ ∃ u : Nat, a = (u : Int) ∧ u ≤ 9223372036854775807 := by
  by_cases h : a < 0
  · exact .inl ⟨(-(a + 1)).toNat, by omega, by omega⟩
  · exact .inr ⟨a.toNat, by omega, by omega⟩
theorem all_lt {xs ys : List Nat} (h : ∀ x ∈ xs, x < 256) (k : ∀ x ∈ ys, x < 256) : ∀ x ∈ xs ++ ys, x < 256 := fun x hm => by
  rcases List.mem_append.1 hm with hm | hm
  · exact h x hm
  · exact k x hm

set_option maxRecDepth 100000 in
set_option maxHeartbeats 4000000 in
theorem walk (a0 : Option Addr) (len0 cap0 : Nat) (z0 : List Int) (a1 : Option Addr) (len1 cap1 : Nat) (z1 : List Int) (a2 : Int) (w : World) (w0 : IsRow .u8 w a0 len0 cap0 z0) (w1 : IsRow .u8 w a1 len1 cap1 z1) (w2 : (Lit.int .i64 a2).wf = true) :
    Calls Try.prog 8 #[.slice a0 len0 cap0, .slice a1 len1 cap1, .int .i64 a2] w fun e w' => e = .returned (.bool true) ∧ Below w.heap.size w w' := by
  obtain ⟨i0, hi0, hz0, hz1, hz2⟩ := info_parts info_byte
  obtain ⟨xs, n, hl, hn, hc, hx, hr, hf⟩ := few_open w0 100 (by omega)
  obtain ⟨ys, m, hlm, hm, hcm, hxm, hrm, hfm⟩ := few_open w1 4 (by omega)
  have HL := Lib.hid hl; have HX := Lib.hid hx; have HR := Lib.hid hr; have HF := Lib.hid hf
  have HLM := Lib.hid hlm; have HXM := Lib.hid hxm; have HRM := Lib.hid hrm; have HFM := Lib.hid hfm
  have hbd := bounds_i64 w2
  clear w0 w1 w2 hl hx hr hf hlm hxm hrm hfm
  rcases cut_nat a2 (by omega) (by omega) with ⟨u, rfl, hu⟩ | ⟨u, rfl, hu⟩
  all_goals
    clear hbd
    obtain ⟨r, hr⟩ := Int.eq_ofNat_of_zero_le (Int.emod_nonneg (u : Int) (show ((n : Int) + 4 + 1) ≠ 0 by omega))
    have hrn := Int.emod_lt_of_pos (u : Int) (show 0 < (n : Int) + 4 + 1 by omega)
    rw [hr] at hrn
    obtain ⟨q, hq⟩ : ∃ q : Nat, (n : Int) + 4 - (r : Int) = (q : Int) := ⟨n + 4 - r, by omega⟩
    have hqn : q ≤ n + 4 := by omega
    have d1 : decide (-(u : Int) - 1 < 0) = true := by simp; omega
    have d2 : decide ((u : Int) < 0) = false := by simp
    have d3 : ((n : Int) + 4 == 0) = false := by simp; omega
    go_enter Try.func8, Try.ntmps8
    go_wp2_with fail
    refine (HF.out _).mono ?_
    rintro e w' ⟨rfl, rfl⟩
    go_wp2_with fail
    refine (HFM.out _).mono ?_
    rintro e w' ⟨rfl, rfl⟩
    go_wp2_with fail
    refine (seal_any w xs n HL.out HX.out _ a0 cap0 HR.out (Nat.le_refl _) (by omega)).mono ?_
    rintro e w1 ⟨A1, c1, rfl, ho1, hb1⟩
    rw [sealL_length, HL.out] at ho1
    have z1 := hb1.size
    have hc1 : n + 4 ≤ c1 := own_cap ho1
    have hr1 : Reads w1 w1.heap.size 1 A1 (n + 4) (BS (sealL xs)) := Reads.of_own ho1
    have hrm1 : Reads w1 w1.heap.size 1 a1 m (BS ys) := (HRM.out.below hb1).more z1
    have hls : (sealL xs).length = n + 4 := by rw [sealL_length, HL.out]
    have hxs := sealL_lt HX.out
    have HLS := Lib.hid hls; have HXS := Lib.hid hxs; have HR1 := Lib.hid hr1; have HRM1 := Lib.hid hrm1; have HB1 := Lib.hid hb1
    clear hls hxs hr1 hrm1 hb1 ho1
    go_wp2_with (first
      | (at_builtin
         refine wpList_append_any _ rfl (.tmp 23) (.tmp 24) _ rfl w1.heap.size 5 i0 _ 1 1 Try.underlying22 hi0 hz0 hz1 hz2 rfl (by decide) (.slice none 0 0) 0 [] rfl
           (World.ownsRow_nil _ _ _ _) w1.heap.size a1 m cap1 (BS ys) rfl HRM1.out (BS_one _) (by unfold maxLen; omega) (by omega) (Nat.le_refl _) ?_
         intro v2 w2 hown2 hg2 hat2
         have hbe2 : Below w1.heap.size w1 w2 := (Below.refl _ w1).grown hg2 (Nat.le_refl _) (by simp [Value.ownBlock])
         have z2 := hbe2.size
         have HO2 := Lib.hid hown2; have HBE2 := Lib.hid hbe2; have HRS2 := Lib.hid (HR1.out.below hbe2); have HRY2 := Lib.hid (HRM1.out.below hbe2);
         clear hown2 hg2 hat2 hbe2)
      | (at_builtin
         refine wpList_append_any _ rfl (.tmp 26) (.tmp 27) _ rfl w1.heap.size 5 i0 _ 1 1 Try.underlying22 hi0 hz0 hz1 hz2 rfl (by decide) v2 (0 + m) ([] ++ BS ys) rfl
           HO2.out w1.heap.size A1 (n + 4) c1 (BS (sealL xs)) rfl HRS2.out (BS_one _) (by unfold maxLen; omega) (by omega) z2 ?_
         intro v3 w3 hown3 hg3 hat3
         obtain ⟨A3, c3, rfl, hr3⟩ := reads_own hown3
         have HQ3 := Lib.hid hr3; have cp3 := own_cap hown3
         have hbe3 : Below w1.heap.size w1 w3 := HBE2.out.grown hg3 z2 (fun k hk => (HO2.out.lt k hk).1)
         have z3 := hbe3.size
         have HO3 := Lib.hid hown3; have HBE3 := Lib.hid hbe3; have HRS3 := Lib.hid (HR1.out.below hbe3); have HRY3 := Lib.hid (HRM1.out.below hbe3);
         clear hown3 hg3 hat3 hbe3 hr3)
      | (at_builtin
         refine wpList_append_any _ rfl (.tmp 29) (.tmp 30) _ rfl w3.heap.size 5 i0 _ 1 1 Try.underlying22 hi0 hz0 hz1 hz2 rfl (by decide) (.slice none 0 0) 0 [] rfl
           (World.ownsRow_nil _ _ _ _) w1.heap.size A1 (n + 4) c1 (BS (sealL xs)) rfl HRS3.out (BS_one _) (by unfold maxLen; omega) (by omega) (Nat.le_refl _) ?_
         intro v4 w4 hown4 hg4 hat4
         have hbe4 : Below w1.heap.size w1 w4 := HBE3.out.grown hg4 z3 (by simp [Value.ownBlock])
         have z4 := hbe4.size
         have HO4 := Lib.hid hown4; have HBE4 := Lib.hid hbe4; have HRS4 := Lib.hid (HR1.out.below hbe4); have HRY4 := Lib.hid (HRM1.out.below hbe4); have y4 : w3.heap.size ≤ w4.heap.size := hg4.size
         have HX4 : Hid (Below w3.heap.size w3 w4) := (Below.refl _ w3).grown hg4 (Nat.le_refl _) (by simp [Value.ownBlock])
         clear hown4 hg4 hat4 hbe4)
      | (at_builtin
         refine wpList_append_any _ rfl (.tmp 32) (.tmp 33) _ rfl w3.heap.size 5 i0 _ 1 1 Try.underlying22 hi0 hz0 hz1 hz2 rfl (by decide) v4 (0 + (n + 4)) ([] ++ BS (sealL xs)) rfl
           HO4.out w1.heap.size a1 m cap1 (BS ys) rfl HRY4.out (BS_one _) (by unfold maxLen; omega) (by omega) (by omega) ?_
         intro v5 w5 hown5 hg5 hat5
         obtain ⟨A5, c5, rfl, hr5⟩ := reads_own hown5
         have HQ5 := Lib.hid hr5; have cp5 := own_cap hown5
         have HX5 : Hid (Below w3.heap.size w3 w5) := HX4.out.grown hg5 y4 (fun k hk => (HO4.out.lt k hk).1)
         have hbe5 : Below w1.heap.size w1 w5 := HBE4.out.grown hg5 z4 (fun k hk => by have := (HO4.out.lt k hk).1; omega)
         have z5 := hbe5.size
         have HO5 := Lib.hid hown5; have HBE5 := Lib.hid hbe5; have HRS5 := Lib.hid (HR1.out.below hbe5); have HRY5 := Lib.hid (HRM1.out.below hbe5);
         clear hown5 hg5 hat5 hbe5 hr5))
    have any5 : Any w5 A5 (n + 4 + m) c5 (sealL xs ++ ys) := by
      refine ⟨by rw [List.length_append, HLS.out, HLM.out], all_lt HXS.out HXM.out, by omega, by omega, ?_⟩
      have := HQ5.out
      rwa [Nat.zero_add, List.nil_append, BS_append] at this
    have any3 : Any w5 A3 (m + (n + 4)) c3 (ys ++ sealL xs) := by
      refine ⟨by rw [List.length_append, HLS.out, HLM.out], all_lt HXM.out HXS.out, by omega, by omega, ?_⟩
      have := (HQ3.out.below HX5.out).more HX5.out.size
      rwa [Nat.zero_add, List.nil_append, BS_append] at this
    have any1 : Any w5 A1 q c1 ((sealL xs).take q) :=
      ⟨List.length_take_of_le (by have := HLS.out; omega), fun x h => HXS.out x (List.mem_of_mem_take h), by omega, by omega, (HRS5.out.more z5).take hqn⟩
    obtain ⟨C, hC⟩ : ∃ C : Array Value, C = #[Value.slice A3 (m + (n + 4)) c3, Value.slice A5 (n + 4 + m) c5, Value.slice A1 q c1] := ⟨_, rfl⟩
    rw [← hC]
    have hball : Below w5.heap.size w5 (w5.alloc (.cells C 22)) := (Below.refl _ _).alloc (Nat.le_refl _) _
    have hcC : ∀ k, (w5.alloc (.cells C 22)).cell? ⟨w5.heap.size, k, none⟩ = C[k]? := fun k => cell_of_row _ _ k C _ (0, 0) (heap_alloc_new w5 _)
    obtain ⟨wb, hwb⟩ : ∃ wb, wb = w5.alloc (.cells C 22) := ⟨_, rfl⟩
    rw [← hwb] at hball hcC ⊢
    have hall : ∀ k, k < 3 → ∃ A n c xs, wb.cell? ⟨w5.heap.size, k, none⟩ = some (.slice A n c) ∧ Any wb A n c xs := by
      intro k hk
      rw [hcC, hC]
      match k, hk with
      | 0, _ => exact ⟨_, _, _, _, rfl, any3.below hball⟩
      | 1, _ => exact ⟨_, _, _, _, rfl, any5.below hball⟩
      | 2, _ => exact ⟨_, _, _, _, rfl, any1.below hball⟩
    have hbw : Below w.heap.size w wb := (HB1.out.trans (HBE5.out.mono z1)).trans (hball.mono (by omega))
    have HALL := Lib.hid hall; have HBW := Lib.hid hbw
    clear any5 any3 any1 hball hcC hall hbw hC hwb HQ3 HQ5 HX4 HX5 HO2 HO3 HO4 HO5 HBE2 HBE3 HBE4 HBE5 HRS2 HRS3 HRS4 HRS5 HRY2 HRY3 HRY4 HRY5 hr hq
    go_loopw [13] (fun i wr => ∃ k : Nat, k ≤ 3 ∧ i = .int .i64 (k : Int) ∧ Below wb.heap.size wb wr) (fun i _ => 3 - (intOf i).toNat)
    case atStart => exact ⟨0, by omega, rfl, Below.refl _ _⟩
    case round =>
      obtain ⟨k, hk, rfl, hbr⟩ := hrel
      have zr := hbr.size
      have HBR := Lib.hid hbr
      by_cases hlt : k < 3
      · obtain ⟨B, l, cb, bs, hcell, hany⟩ := HALL.out k hlt
        have hblk := World.block_lt_of_cell? _ _ hcell
        have hcr := (hbr.cell hblk).trans hcell
        obtain ⟨bl, bx, bc, bn, br⟩ := hany
        have hrr := (br.below hbr).more zr
        have HRR := Lib.hid hrr; have HBL := Lib.hid bl; have HBX := Lib.hid bx; have HCE := Lib.hid hcell
        have HBK := Lib.hid hblk
        clear hrr bl bx br hcell hbr hblk
        go_wp2_with fail
        refine (open_all wr bs l HBL.out HBX.out _ B cb HRR.out bc (Nat.le_refl _) bn).mono ?_
        rintro e wo ⟨A', m', c', rfl, ho, hbo, hm'⟩
        have zo := hbo.size
        have hbro : Below wb.heap.size wb wo := HBR.out.trans (hbo.mono zr)
        have hco := (hbro.cell HBK.out).trans HCE.out
        have hro := (HRR.out.below hbo).more zo
        have HRO := Lib.hid hro; have HBO := Lib.hid hbro; have HM := Lib.hid hm'
        clear hro hbro hbo hm' ho hcr
        go_wp2_with fail
        refine (why_all wo bs l HBL.out HBX.out _ B cb HRO.out bc (Nat.le_refl _) bn).mono ?_
        rintro e wy ⟨rfl, hby⟩
        have hbry : Below wb.heap.size wb wy := HBO.out.trans (hby.mono (by omega))
        have HBY := Lib.hid hbry
        clear hby hbry hco
        obtain ⟨E, hE⟩ : ∃ E, E = whyI bs := ⟨_, rfl⟩
        rw [← hE] at HM
        try rw [← hE]
        clear hE
        rcases HM.out with ⟨h0, _⟩ | ⟨h0, hm0⟩
        · subst h0
          go_wp2_with fail
          exact ⟨⟨k + 1, by omega, by go_num, HBY.out⟩, by simp [intOf]; omega⟩
        · subst hm0
          have hE0 : (E != 0) = true := by simpa using h0
          clear h0
          go_wp2_with fail
          exact ⟨⟨k + 1, by omega, by go_num, HBY.out⟩, by simp [intOf]; omega⟩
      · obtain rfl : k = 3 := by omega
        go_wp2_with fail
        refine (crc_lives _).mono ?_
        rintro e wl ⟨rfl, hbl⟩
        go_wp2_with fail
        go_ret
        exact ⟨rfl, (HBW.out.trans (HBR.out.mono HBW.out.size)).trans (hbl.mono (by have := HBW.out.size; omega))⟩

set_option maxRecDepth 100000 in
theorem lifted (os : Os) (started : os.Started) (H : Type) (enc : TypeId × Value → H) :
    ReturnsInHanded {} Try.checked os 8 .any (Rows.crcLongerSpec.pre6 enc Try.prog Try.f8 Rows.crcLongerRow.domain false) (Rows.crcLongerSpec.post enc Try.prog Try.f8 false true false false) := by
  refine returnsInHanded_of_change (C := Try.checked) own started (by kernel_rfl) Try.func8
    (ChangeSpec.witness6 (enc := enc) (C := Try.checked) false ⟨#[], #[.slice none 0 0, .slice none 0 0, .int .i64 0], []⟩ 8 (by kernel_rfl) (by kernel_rfl) (by kernel_rfl) (by kernel_rfl)) ?_
  intro W base args ds gs before hval0 hW hcnd _
  have hval : ∀ (j : Nat) t v, Try.f8.params[j]? = some t → args[j]? = some v → Value.okWide Try.prog W .any base t v := hval0
  have hW' := hW
  obtain ⟨p, q, hA0, hV, rfl, hfz, hnd⟩ := hW
  have hA : DataW.TrodAll enc Try.prog W 0 (fun _ => true) true Try.f8.params.toList args.toList ds p := hA0
  rw [Try.params8] at hA hval
  obtain ⟨v0, vs0, d0, ds0, p0, q0, hargs, rfl, rfl, h0, r0⟩ := trodAll_cons hA
  obtain ⟨v1, vs1, d1, ds1, p1, q1, rfl, rfl, rfl, h1, r1⟩ := trodAll_cons r0
  obtain ⟨v2, vs2, d2, ds2, p2, q2, rfl, rfl, rfl, h2, r2⟩ := trodAll_cons r1
  obtain ⟨rfl, rfl, rfl⟩ := trodAll_nil r2
  obtain rfl : args = #[v0, v1, v2] := by cases args; simp_all
  obtain ⟨rfl, rfl⟩ := trodVars_none hV
  obtain ⟨a0, len0, cap0, rfl⟩ := okWide_slice Try.underlying22 (hval 0 22 v0 rfl rfl)
  have k0 := h0
  have lt0 : ∀ x ∈ p0, x.block < W.heap.size := by obtain ⟨m, hm⟩ := k0; exact DataW.trod_lt m _ _ _ hm
  obtain ⟨z0, w0⟩ : ∃ zs, IsRow .u8 W a0 len0 cap0 zs := by
    obtain ⟨fuel, hf⟩ := h0
    rcases open_ints Try.underlying22 Try.underlying5 (by kernel_rfl) hf with ⟨hcs, _⟩ | ⟨x, l, c, zs, hcs, _, hl, hm, hz, _, hcell, hwz⟩
    · simp [Value.cells] at hcs
      obtain ⟨rfl, rfl, rfl⟩ := hcs
      exact ⟨[], .inl ⟨rfl, rfl, rfl, rfl⟩⟩
    · simp [Value.cells] at hcs
      obtain ⟨rfl, rfl, rfl⟩ := hcs
      exact ⟨zs, .inr ⟨_, rfl, hl, hm, by simpa using hz, hcell, hwz⟩⟩
  obtain ⟨a1, len1, cap1, rfl⟩ := okWide_slice Try.underlying22 (hval 1 22 v1 rfl rfl)
  have k1 := h1
  have lt1 : ∀ x ∈ p1, x.block < W.heap.size := by obtain ⟨m, hm⟩ := k1; exact DataW.trod_lt m _ _ _ hm
  obtain ⟨z1, w1⟩ : ∃ zs, IsRow .u8 W a1 len1 cap1 zs := by
    obtain ⟨fuel, hf⟩ := h1
    rcases open_ints Try.underlying22 Try.underlying5 (by kernel_rfl) hf with ⟨hcs, _⟩ | ⟨x, l, c, zs, hcs, _, hl, hm, hz, _, hcell, hwz⟩
    · simp [Value.cells] at hcs
      obtain ⟨rfl, rfl, rfl⟩ := hcs
      exact ⟨[], .inl ⟨rfl, rfl, rfl, rfl⟩⟩
    · simp [Value.cells] at hcs
      obtain ⟨rfl, rfl, rfl⟩ := hcs
      exact ⟨zs, .inr ⟨_, rfl, hl, hm, by simpa using hz, hcell, hwz⟩⟩
  obtain ⟨a2, rfl, rfl, rfl, w2⟩ := open_int Try.underlying3 (hval 2 3 v2 rfl rfl) h2
  clear hA0 hval0
  refine (walk a0 len0 cap0 z0 a1 len1 cap1 z1 a2 W w0 w1 w2).mono fun e W' ⟨he, bel⟩ => ?_
  subst he
  exact ⟨_, rfl, _, _, _, [], _, [], hW', trodAll_mk1 (shut_bool Try.underlying4 _), (trodAll_cons_mk (Below.trod laidOut (by kernel_rfl) (of_decide_eq_true (by kernel_rfl)) k0 bel lt0) (trodAll_cons_mk (Below.trod laidOut (by kernel_rfl) (of_decide_eq_true (by kernel_rfl)) k1 bel lt1) (trodAll_cons_mk (shut_int Try.underlying3 w2) trodAll_mk0))), rfl, bel.frame _, fun h => by cases h⟩

theorem over : Rows.crcLongerRow.holds Try.pinned (OpenSpec.ofChange Rows.crcLongerSpec) :=
  OpenClaim.holds_of_wide 8 Try.f8 rfl rfl rfl rfl rfl rfl rfl ⟨rfl, rfl, rfl, rfl, rfl⟩ rfl rfl rfl rfl rfl (by kernel_rfl) Try.func8 (by kernel_rfl)
    (of_decide_eq_true (by kernel_rfl)) (by unfold Func.isWrapper; first | (rw [if_pos (by decide +kernel)]; kernel_rfl) | (rw [if_neg (by decide +kernel)]; exact ⟨rfl, rfl⟩))
    (fun os started H enc _ => lifted os started H enc)

theorem proved : Rows.CrcLongerSaid := over
#print axioms proved
end Go.Proofs.Ytjhgegoipnjgmaa.crcLonger
