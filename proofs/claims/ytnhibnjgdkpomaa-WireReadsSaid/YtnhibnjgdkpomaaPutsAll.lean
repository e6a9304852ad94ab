/-
  What 'puts' of layer 1's statements tells: what is written by the program, and by the document: the same bytes.
-/
import Derived.Test.YtnhibnjgdkpomaaTwo
import Derived.Deep.RegionHeld3
namespace Go.Proofs.Ytnhibnjgdkpomaa
open Go.RowKit Plain

theorem run_u64 (a : Int) : ∃ k : Nat, IntKind.u64.wrap a = (k : Int) ∧ k = (a % 18446744073709551616).toNat ∧ k ≤ 18446744073709551615 := by
  refine ⟨(a % 18446744073709551616).toNat, ?_, rfl, by omega⟩
  show a % 18446744073709551616 = _
  omega

set_option maxRecDepth 100000 in
set_option maxHeartbeats 4000000 in
theorem puts_any (a : Option Addr) (n c : Nat) (ps : List PutV) (w : World) (hP : IsPuts w a n c ps) :
    Calls Try.prog 10 #[.slice a n c] w fun e w' => ∃ A1 c1 A2 c2, e = .returned (.tuple #[.slice A1 (putsL ps (min n 20)).length c1, .slice A2 (putsL ps (min n 20)).length c2, .int .i64 ((putsL ps (min n 20)).length : Int)]) ∧
      Reads w' w'.heap.size 1 A1 (putsL ps (min n 20)).length (BS (putsL ps (min n 20))) ∧ Reads w' w'.heap.size 1 A2 (putsL ps (min n 20)).length (BS (putsL ps (min n 20))) ∧ Below w.heap.size w w' := by
  have HP := Lib.hid hP
  have hn9 : n ≤ 9223372036854775807 := by have := hP.2.1; have := hP.2.2.1; unfold maxLen at *; omega
  clear hP
  have HW0 := Lib.hid (Wr.new w w.heap.size)
  obtain ⟨i0, hi0, hz0, hz1, hz2⟩ := info_parts info_byte
  go_enter Try.func10, Try.ntmps10
  go_wp2_with fail
  go_loopw [6, 7] (fun o s wr => PRel w w.heap.size n ps o s wr) (fun _ s _ => 20 - (intOf s).toNat)
  case atStart =>
    refine ⟨0, _, none, 0, [], rfl, rfl, by omega, by omega, by simp, rfl, HW0.out, World.ownsRow_nil _ _ _ _, by simp [Value.ownBlock], (Below.refl _ _).alloc (Nat.le_refl _) _, Nat.le_refl _⟩
  case round =>
    obtain ⟨i, v, A, c', L, rfl, rfl, hi20, hin, hLl, HLE, hT⟩ := hrel
    have HT := Lib.hid hT
    have zr := hT.size
    clear hT
    by_cases hgo : i < n ∧ i < 20
    · obtain ⟨hgo1, hgo2⟩ := hgo
      obtain ⟨hpl, hpc, hpm, hpa⟩ := HP.out
      obtain ⟨x, rfl, hxb, hpx⟩ := hpa (by omega)
      have hpi : ps[i]? = some ps[i] := List.getElem?_eq_getElem (show i < ps.length by omega)
      have hp0 := hpx i _ hpi
      have hsucc := putsL_succ hpi
      generalize ps[i] = p at hp0 hsucc
      have hxb' : (x.add (i * 4)).block < w.heap.size := by rw [block_of_add]; exact hxb
      have HP0 := Lib.hid hp0
      have HSUCC := Lib.hid hsucc
      have bN := hp0.2.2.2.2.2.1
      have bV := hp0.2.2.2.2.2.2.1
      have bS := hp0.2.2.2.2.2.2.2
      have HPB := Lib.hid (PutB_length bV.2)
      clear hpl hpm hpa hpx hpi hp0 hsucc
      have HBr := Lib.hid HT.out.2.2.2.1
      obtain ⟨ck, cn, cv, cs⟩ := (HP0.out.below hxb' HBr.out).cells
      by_cases hs2 : 200 < p.s.size
      all_goals
        go_wp2_with fail
        go_quiet (fail)
        rename_i nq
      generalize hx : p.s.extract 0 200 = s
      have hsc : s = cutS p.s := by unfold cutS; rw [if_neg (by omega), hx]
      clear hx
      rotate_left
      obtain ⟨s, hx⟩ : ∃ s, s = p.s := ⟨_, rfl⟩
      have hsc : s = cutS p.s := by unfold cutS; rw [if_pos (by omega), hx]
      rw [← hx]
      clear hx
      all_goals
        have hs200 : s.size ≤ 200 := by rw [hsc]; exact cutS_size _
        have HSC := Lib.hid hsc
        clear hsc
        have HKEEP : Hid (∀ w', Below w.heap.size w w' → w'.cell? ⟨(x.add (i * 4)).block, (x.add (i * 4)).off + 2, none⟩ = some (.int .i64 p.v) ∧ w'.cell? ⟨(x.add (i * 4)).block, (x.add (i * 4)).off + 1, none⟩ = some (.int .i64 p.n)) :=
          fun w' hb => ⟨(HP0.out.below hxb' hb).cells.2.2.1, (HP0.out.below hxb' hb).cells.2.1⟩
        obtain ⟨k, hk, hke, hkl⟩ := run_u64 p.v
        have HKE := Lib.hid hke
        clear hke
        by_cases h0 : p.kind = 0
        · have hb0 : (p.kind == 0) = true := by rw [beq_iff_eq]; exact h0
          have H0 := Lib.hid h0
          clear h0
          go_wp2_with fail
          have HLE2 := Lib.hid HLE.out
          go_region_held3 (fun w' => w'.cell? ⟨(x.add (i * 4)).block, (x.add (i * 4)).off + 2, none⟩ = some (.int .i64 p.v) ∧ w'.cell? ⟨(x.add (i * 4)).block, (x.add (i * 4)).off + 1, none⟩ = some (.int .i64 p.n))
            (first | go_keep | (exact HKEEP.out _ ((below_drews HBr.out _).alloc zr _)) | (exact HKEEP.out _ hT2.2.2.2.1))
            ((go_simp; first
              | (go_at_call 20
                 refine (wide_any p.n _ bN.1 bN.2).mono ?_
                 rintro e wb ⟨rfl, rfl⟩)
              | (go_at_call 30
                 go_must (refine (fixed_any w.heap.size w.heap.size v L k (wideOf p.n) _ ((HT.out.drewN _).below ((Below.refl _ _).alloc (Nat.le_refl _) _)).1 hkl (wideOf_wide _) (by omega) (by simp; omega)).mono ?_)
                 rintro e wc ⟨rfl, hst⟩
                 obtain ⟨v2, hT2⟩ := Two.wrote ((HT.out.drewN _).below ((Below.refl _ _).alloc (Nat.le_refl _) _)) hst)))
          have HT2 := Lib.hid hT2
          have HBc := Lib.hid hT2.2.2.2.1
          have zc := hT2.size
          clear hT2 hst ck cn cv cs
          obtain ⟨ck, cn, cv, cs⟩ := (HP0.out.below hxb' HBc.out).cells
          go_wp2_with fail
          go_region_held3 (fun w' => w'.cell? ⟨(x.add (i * 4)).block, (x.add (i * 4)).off + 2, none⟩ = some (.int .i64 p.v) ∧ w'.cell? ⟨(x.add (i * 4)).block, (x.add (i * 4)).off + 1, none⟩ = some (.int .i64 p.n))
            (first | go_keep | (exact HKEEP.out _ ((below_drews HBc.out _).alloc zc _)) | (exact HKEEP.out _ hT4.2.2.2.1) | (exact HKEEP.out _ hT3.2.2.2.1))
            ((first
              | (refine step_append_any _ (by rfl) (.tmp 58) (.tmp 71) _ (by rfl) w.heap.size 5 i0 _ 1 1 Try.underlying23 hi0 hz0 hz1 hz2 rfl (by decide) (.slice A L.length c') L.length (BS L) (by rfl) hT3.2.1 _ A3 (wideOf p.n) c3 (BS (fixedL k (wideOf p.n))) (by rfl) (Reads.of_own hO3) (BS_one _) (by unfold maxLen; omega) (by omega) (Two.size hT3) ?_
                 intro v4 w4 hown4 hg4 hat4
                 obtain ⟨A4, c4, rfl, _⟩ := reads_own hown4
                 rw [BS_append] at hown4
                 have hT4 := Two.grew hT3 hown4 hg4 (at_of hat4))
              | (go_simp; first
                | (go_at_call 20
                   refine (wide_any p.n _ bN.1 bN.2).mono ?_
                   rintro e wb ⟨rfl, rfl⟩)
                | (go_at_call 34
                   go_must (refine (ref_fixed k (wideOf p.n) _ hkl (wideOf_le _)).mono ?_)
                   rintro e wd ⟨A3, c3, rfl, hO3, hm3⟩
                   have hT3 := Two.below ((HT2.out.drewN _).below ((Below.refl _ _).alloc (Nat.le_refl _) _)) hm3
                   have hw8 := wideOf_le p.n
                   rw [fixedL_length] at hO3))))
          have HT4 := Lib.hid hT4
          clear hT4 hT3 hown4 hg4 hat4
          have hpb : fixedL k (wideOf p.n) = PutB p := by unfold PutB; rw [if_pos H0.out, HKE.out]
          go_wp2_with fail
          exact ⟨p_close hpb (fixedL_length _ _) (by go_num) HT4.out HSUCC.out HLE.out hgo1 hgo2 hLl HPB.out, by simp [intOf]; omega⟩
        · have hb0 : (p.kind == 0) = false := by rw [beq_eq_false_iff_ne]; exact h0
          have H0 := Lib.hid h0
          clear h0 hk
          by_cases h1 : p.kind = 1
          · have hb1 : (p.kind == 1) = true := by rw [beq_iff_eq]; exact h1
            have H1 := Lib.hid h1
            have hpb : shortL p.v.toNat = PutB p := by unfold PutB; rw [if_neg H0.out, if_pos H1.out]
            have HPBE := Lib.hid hpb
            have h9 := shortL_nine (n := p.v.toNat) (by omega)
            clear h1 hpb
            go_wp2_with fail
            refine (short_any w.heap.size w.heap.size v L p.v _ (HT.out.drewN nq).1 bV.2 (by omega) (by simp; omega)).mono ?_
            rintro e wc ⟨rfl, hst⟩
            obtain ⟨v2, hT2⟩ := Two.wrote (HT.out.drewN nq) hst
            have HT2 := Lib.hid hT2
            have HBc := Lib.hid hT2.2.2.2.1
            have zc := hT2.size
            clear hT2 hst ck cn cv cs
            obtain ⟨ck, cn, cv, cs⟩ := (HP0.out.below hxb' HBc.out).cells
            go_wp2_with fail
            refine (ref_short p.v wc bV.2).mono ?_
            rintro e wd ⟨A3, c3, rfl, hO3, hm3⟩
            have HT3 := Lib.hid (HT2.out.below hm3)
            have HO3 := Lib.hid hO3
            clear hO3 hm3
            go_wp2_with (at_builtin; go_must (refine wpList_append_any _ rfl (.tmp 81) (.tmp 87) _ rfl w.heap.size 5 i0 _ 1 1 Try.underlying23 hi0 hz0 hz1 hz2 rfl (by decide) (.slice A L.length c') L.length (BS L) rfl HT3.out.2.1 wd.heap.size A3 (shortL p.v.toNat).length c3 (BS (shortL p.v.toNat)) rfl (Reads.of_own HO3.out) (BS_one _) (by unfold maxLen; omega) (by omega) HT3.out.size ?_); intro v4 w4 hown4 hg4 hat4; obtain ⟨A4, c4, rfl, _⟩ := reads_own hown4; rw [BS_append] at hown4; have HT4 := Lib.hid (HT3.out.grew hown4 hg4 (at_of hat4)); clear hown4 hg4 hat4)
            exact ⟨p_close HPBE.out rfl (by go_num) HT4.out HSUCC.out HLE.out hgo1 hgo2 hLl HPB.out, by simp [intOf]; omega⟩
          · have hb1 : (p.kind == 1) = false := by rw [beq_eq_false_iff_ne]; exact h1
            have H1 := Lib.hid h1
            clear h1
            by_cases h2 : p.kind = 2
            · have hb2 : (p.kind == 2) = true := by rw [beq_iff_eq]; exact h2
              have H2 := Lib.hid h2
              have hpb : shortL (zig (clampZ p.v)) = PutB p := by unfold PutB; rw [if_neg H0.out, if_neg H1.out, if_pos H2.out]
              have HPBE := Lib.hid hpb
              have h9 := shortL_nine (zig_le p.v)
              clear h2 hpb
              go_wp2_with fail
              refine (signed_any w.heap.size w.heap.size v L p.v _ (HT.out.drewN nq).1 bV.1 bV.2 (by omega) (by simp; omega)).mono ?_
              rintro e wc ⟨rfl, hst⟩
              obtain ⟨v2, hT2⟩ := Two.wrote (HT.out.drewN nq) hst
              have HT2 := Lib.hid hT2
              have HBc := Lib.hid hT2.2.2.2.1
              have zc := hT2.size
              clear hT2 hst ck cn cv cs
              obtain ⟨ck, cn, cv, cs⟩ := (HP0.out.below hxb' HBc.out).cells
              go_wp2_with fail
              refine (ref_signed p.v wc bV.1 bV.2).mono ?_
              rintro e wd ⟨A3, c3, rfl, hO3, hm3⟩
              have HT3 := Lib.hid (HT2.out.below hm3)
              have HO3 := Lib.hid hO3
              clear hO3 hm3
              go_wp2_with (at_builtin; go_must (refine wpList_append_any _ rfl (.tmp 97) (.tmp 103) _ rfl w.heap.size 5 i0 _ 1 1 Try.underlying23 hi0 hz0 hz1 hz2 rfl (by decide) (.slice A L.length c') L.length (BS L) rfl HT3.out.2.1 wd.heap.size A3 (shortL (zig (clampZ p.v))).length c3 (BS (shortL (zig (clampZ p.v)))) rfl (Reads.of_own HO3.out) (BS_one _) (by unfold maxLen; omega) (by omega) HT3.out.size ?_); intro v4 w4 hown4 hg4 hat4; obtain ⟨A4, c4, rfl, _⟩ := reads_own hown4; rw [BS_append] at hown4; have HT4 := Lib.hid (HT3.out.grew hown4 hg4 (at_of hat4)); clear hown4 hg4 hat4)
              exact ⟨p_close HPBE.out rfl (by go_num) HT4.out HSUCC.out HLE.out hgo1 hgo2 hLl HPB.out, by simp [intOf]; omega⟩
            · have hb2 : (p.kind == 2) = false := by rw [beq_eq_false_iff_ne]; exact h2
              have H2 := Lib.hid h2
              clear h2
              by_cases h3 : p.kind = 3
              · have hb3 : (p.kind == 3) = true := by rw [beq_iff_eq]; exact h3
                have H3 := Lib.hid h3
                have hpb : shortL s.size ++ SB s = PutB p := by unfold PutB; rw [if_neg H0.out, if_neg H1.out, if_neg H2.out, if_pos H3.out, HSC.out]
                obtain ⟨TB, hTB⟩ : ∃ TB, TB = shortL s.size ++ SB s := ⟨_, rfl⟩
                have HTB := Lib.hid hTB
                rw [← hTB] at hpb
                have HPBE := Lib.hid hpb
                have h9 : TB.length ≤ 209 := by rw [hTB, List.length_append, SB_length]; have := shortL_nine (n := s.size) (by omega); omega
                clear h3 hpb hTB
                go_wp2_with fail
                have hwt := text_any w.heap.size w.heap.size v L s _ (HT.out.drewN nq).1 (by omega) (by omega) (by simp; omega)
                rw [← HTB.out] at hwt
                refine hwt.mono ?_
                clear hwt
                rintro e wc ⟨rfl, hst⟩
                obtain ⟨v2, hT2⟩ := Two.wrote (HT.out.drewN nq) hst
                have HT2 := Lib.hid hT2
                have HBc := Lib.hid hT2.2.2.2.1
                have zc := hT2.size
                clear hT2 hst ck cn cv cs
                obtain ⟨ck, cn, cv, cs⟩ := (HP0.out.below hxb' HBc.out).cells
                go_wp2_with fail
                have hrt := ref_text s wc (by omega)
                rw [← HTB.out] at hrt
                refine hrt.mono ?_
                clear hrt
                rintro e wd ⟨A3, c3, rfl, hO3, hm3⟩
                have HT3 := Lib.hid (HT2.out.below hm3)
                have HO3 := Lib.hid hO3
                clear hO3 hm3
                go_wp2_with (at_builtin; go_must (refine wpList_append_any _ rfl (.tmp 109) (.tmp 111) _ rfl w.heap.size 5 i0 _ 1 1 Try.underlying23 hi0 hz0 hz1 hz2 rfl (by decide) (.slice A L.length c') L.length (BS L) rfl HT3.out.2.1 wd.heap.size A3 TB.length c3 (BS TB) rfl (Reads.of_own HO3.out) (BS_one _) (by unfold maxLen; omega) (by omega) HT3.out.size ?_); intro v4 w4 hown4 hg4 hat4; obtain ⟨A4, c4, rfl, _⟩ := reads_own hown4; rw [BS_append] at hown4; have HT4 := Lib.hid (HT3.out.grew hown4 hg4 (at_of hat4)); clear hown4 hg4 hat4)
                exact ⟨p_close HPBE.out rfl (by go_num) HT4.out HSUCC.out HLE.out hgo1 hgo2 hLl HPB.out, by simp [intOf]; omega⟩
              · have hb3 : (p.kind == 3) = false := by rw [beq_eq_false_iff_ne]; exact h3
                have H3 := Lib.hid h3
                have hpb : SB s = PutB p := by unfold PutB; rw [if_neg H0.out, if_neg H1.out, if_neg H2.out, if_neg h3, HSC.out]
                have HPBE := Lib.hid hpb
                have hcv := fun (W : World) => run_bytes_of_string (P := Try.prog) W 9 23 5 s Try.underlying9 Try.underlying23 Try.underlying5
                clear h3 hpb
                go_wp2_with fail
                refine (raw_at w.heap.size w.heap.size v L (SB s) s.size (SB_length s) _ ((HT.out.drewN (nq + 1)).below ((Below.refl _ _).alloc (Nat.le_refl _) _)).1 _ _ _ (reads_string (wr.drewN (nq + 1)) s _ _ _) (by omega) (by simp; omega)).mono ?_
                rintro e wc ⟨rfl, hst⟩
                obtain ⟨v2, hT2⟩ := Two.wrote ((HT.out.drewN (nq + 1)).below ((Below.refl _ _).alloc (Nat.le_refl _) _)) hst
                have HT2 := Lib.hid hT2
                have zc := hT2.size
                clear hT2 hst ck cn cv cs hcv
                go_wp2_with (at_builtin; go_must (refine wpList_append_str _ rfl (.tmp 40) (.tmp 41) 23 9 rfl w.heap.size 5 i0 Try.underlying23 Try.underlying9 hi0 hz0 hz1 hz2 (.slice A L.length c') L.length (BS L) rfl HT2.out.2.1 s rfl (by unfold maxLen; omega) (by omega) HT2.out.size ?_); intro v4 w4 hown4 hg4 hat4; obtain ⟨A4, c4, rfl, _⟩ := reads_own hown4; rw [strCells_eq, BS_append] at hown4; have HT4 := Lib.hid (HT2.out.grew hown4 hg4 hat4); clear hown4 hg4 hat4)
                exact ⟨p_close HPBE.out (SB_length s) (by go_num) HT4.out HSUCC.out HLE.out hgo1 hgo2 hLl HPB.out, by simp [intOf]; omega⟩
    · have him : i = min n 20 := by omega
      have hLm : putsL ps (min n 20) = L := by rw [← him]; exact HLE.out.symm
      have HLM := Lib.hid hLm
      clear him hLm
      by_cases hi : i < n
      all_goals
        go_wp2_with fail
        refine (bytes_any w.heap.size w.heap.size v L wr HT.out.1 (by omega)).mono ?_
        rintro e wc ⟨v1, rfl, hown1, hb1⟩
        obtain ⟨A1, c1, rfl, hr1⟩ := reads_own hown1
        have HT2 := Lib.hid (HT.out.below hb1)
        have HR1 := Lib.hid hr1
        clear hown1 hb1 hr1
        go_wp2_with fail
        refine (len_any _ _ _ _ _ HT2.out.1).mono ?_
        rintro e wd ⟨rfl, rfl⟩
        go_wp2_with fail
        go_ret3
        exact ⟨A1, c1, A, c', by rw [HLM.out]; rfl, by rw [HLM.out]; exact HR1.out, by rw [HLM.out]; exact Reads.of_own HT2.out.2.1, HT2.out.2.2.2.1⟩
end Go.Proofs.Ytnhibnjgdkpomaa
