
/-
  CrF, CrG in one text.
-/
import Derived.Test.YtmjbfobjndiecaaCrD
import Derived.Test.YtmjbfobjndiecaaRegTake
import Derived.Test.YtmjbfobjndiecaaRfMay
set_option linter.unusedVariables false
set_option linter.unusedSimpArgs false
namespace Go.Proofs.Ytmjbfobjndiecaa
section
open Go.RowKit Plain

theorem fr3 {w : World} {b : Nat} (u0 u1 u2 : Value) : Fr (fun j => j = b) w (((w.setCell ⟨b, 0, none⟩ u0).setCell ⟨b, 1, none⟩ u1).setCell ⟨b, 2, none⟩ u2) :=
  (((Fr.refl (fun j => j = b) w).setCell (p := ⟨b, 0, none⟩) (.inl rfl) u0).setCell (p := ⟨b, 1, none⟩) (.inl rfl) u1).setCell (p := ⟨b, 2, none⟩) (.inl rfl) u2
theorem blk3 {w : World} {b : Nat} {T : TypeId} {v0 v1 v2 : Value} (h : Blk w b T #[v0, v1, v2]) (u0 u1 u2 : Value) : Blk (((w.setCell ⟨b, 0, none⟩ u0).setCell ⟨b, 1, none⟩ u1).setCell ⟨b, 2, none⟩ u2) b T #[u0, u1, u2] := by
  simpa using ((h.set_ 0 u0).set_ 1 u1).set_ 2 u2
/-- A row of the document's numbers, of its own from a world on. -/
def NumI (bs : List Nat) (s1 : Sx) (n c : Nat) (A : Option Addr) (w : World) (g4 g2 : Nat) (s6 s7 : Value) (wr : World) : Prop :=
  ∃ k : Nat, k ≤ n ∧ s7 = .int .i64 (k : Int) ∧ RwI wr w.heap.size s6 (iterP (stP sh bs) k s1).1 ∧
    Blk wr g4 90 #[.slice A bs.length c, .int .i64 ((iterP (stP sh bs) k s1).2.1 : Int), .int .i64 (iterP (stP sh bs) k s1).2.2] ∧ Blk wr g2 90 #[.slice none 0 0, .int .i64 0, .int .i64 0] ∧ Below w.heap.size w wr
set_option maxHeartbeats 4000000 in
set_option maxRecDepth 100000 in
theorem refNumbers (bs : List Nat) (c : Nat) (A : Option Addr) (s : Sx) (w : World) (BB : Nat) (hr : Reads w BB 1 A bs.length (BS bs)) (hB : BB ≤ w.heap.size) (hx : ∀ x ∈ bs, x < 256) (hnc : bs.length ≤ c) (hn : bs.length ≤ 140737488355328) (hs : s.1 ≤ bs.length) :
    Calls Try.prog 62 #[.agg #[.slice A bs.length c, .int .i64 (s.1 : Int), .int .i64 s.2]] w fun e w' => ∃ A' c', e = .returned (.tuple #[.agg #[.slice A bs.length c, .int .i64 ((intsP bs s).2.1 : Int), .int .i64 (intsP bs s).2.2], .slice A' (intsP bs s).1.length c']) ∧ RwI w' w.heap.size (.slice A' (intsP bs s).1.length c') (intsP bs s).1 ∧ Below w.heap.size w w' := by
  obtain ⟨a, e⟩ := s
  simp only at hs
  obtain ⟨i0, hi0, hz0, hz1, hz2⟩ := info_parts info_int
  have hl := (told_list bs c a A e 0 0 (.int .i64 0) BB hx hnc hn hs 8).1
  obtain ⟨n, hn1, hn2, hn3⟩ := ls_nat 8 bs (a, e)
  have hle := stP_le (goes_ls 8) hx (s := (a, e)) hs
  have hlp : intsP bs (a, e) = iterP (stP sh bs) n (stP (ls 8) bs (a, e)).2 := by unfold intsP listP; rw [hn1]; rfl
  rw [hn1] at hl
  generalize stP (ls 8) bs (a, e) = q at *
  obtain ⟨q1, s1⟩ := q
  simp only at hl hlp hn1 hle
  rw [hlp]
  have hsh : ∀ s' : Sx, s'.1 ≤ bs.length → RefT 61 #[.agg #[.slice A bs.length c, .int .i64 (s'.1 : Int), .int .i64 s'.2]] A bs.length c (stP sh bs s').2.1 (stP sh bs s').2.2 (.int .i64 (stP sh bs s').1) BB bs := fun s' h => (told_short bs c s'.1 A s'.2 0 0 (.int .i64 0) BB hx hnc hn h).1
  have hst := (Stays.st goes_sh hx).iter (bs := bs)
  have HL := Lib.hid hl; have HSH := Lib.hid hsh; have HR := Lib.hid hr; have HST : Hid (∀ k, (iterP (stP sh bs) k s1).2.1 ≤ bs.length) := fun k => hst k s1 hle
  clear hl hlp hn1 hs hx hsh hr hst
  go_enter Try.func62, Try.ntmps62
  go_wp2_with fail
  refine (HL.out _ ((HR.out.alloc hB _).alloc (by simp; omega) _) (by simp; omega)).mono ?_
  rintro en w1 ⟨rfl, hb1⟩
  obtain ⟨hk1, hk2, z1, hbw⟩ := boxes hb1
  have HK2 := Lib.hid hk2
  have HBW := Lib.hid hbw
  have zz := hbw.size
  clear hb1 hk1 hk2 hbw
  have hbk4 : ∀ o, Below w.heap.size w (w1.alloc o) := fun o => HBW.out.alloc zz o
  have HB4 := Lib.hid hbk4
  clear hbk4
  go_wp2_with fail
  generalize hg4 : w1.heap.size = g4
  have HG4 := Lib.hid hg4
  have z4 : w.heap.size + 1 < g4 := by omega
  clear hg4
  go_loopw [6, 7] (fun s6 s7 wr => NumI bs s1 n c A w g4 (w.heap.size + 1) s6 s7 wr) (fun _ s7 _ => n - (intOf s7).toNat)
  case atStart => exact ⟨0, by omega, rfl, World.ownsRow_nil _ _ _ _, by rw [← HG4.out]; exact Blk.new w1 _ _, HK2.out.alloc _, HB4.out _⟩
  case round =>
    obtain ⟨k, hk, rfl, hrow, hb4, hb2, hbel⟩ := hrel
    have hlen := iterP_length (stP sh bs) k s1
    have hle := HST.out k
    by_cases hlt : k < n
    · have hnx : iterP (stP sh bs) (k + 1) s1 = ((iterP (stP sh bs) k s1).1 ++ [(stP sh bs (iterP (stP sh bs) k s1).2).1], (stP sh bs (iterP (stP sh bs) k s1).2).2) := rfl
      have hcall := HSH.out _ hle wr (HR.out.below (hbel.mono hB)) (by have := hbel.size; omega)
      generalize iterP (stP sh bs) k s1 = it at hrow hb4 hlen hnx hcall
      obtain ⟨l, s2⟩ := it
      simp only at hrow hb4 hlen hnx hcall
      generalize stP sh bs s2 = q at hcall hnx
      obtain ⟨x, s3⟩ := q
      simp only at hcall hnx
      unfold RwI at hrow
      rw [hlen] at hrow
      obtain ⟨A6, c6, rfl, hc6, _⟩ := own_slice hrow
      have zr := hbel.size
      have d0 := (hb4.cell 0).trans rfl
      have d1 := (hb4.cell 1).trans rfl
      have d2 := (hb4.cell 2).trans rfl
      have HROW := Lib.hid hrow; have HB4' := Lib.hid hb4; have HB2 := Lib.hid hb2; have HBEL := Lib.hid hbel; have HNX := Lib.hid hnx; have HLEN := Lib.hid hlen; have HCALL := Lib.hid hcall
      clear hrow hb4 hb2 hbel hnx hlen hcall hle
      go_wp2_with fail
      refine HCALL.out.mono ?_
      rintro en wq ⟨rfl, hbq⟩
      have hz4 := HB4'.out.lt
      have hq4 := HB4'.out.below hbq hz4
      have zq := hbq.size
      have e0 := hq4.frozen 0
      have e1 := hq4.frozen 1
      have e2 := hq4.frozen 2
      have f0 := (hq4.cell 0).trans rfl
      have f1 := (hq4.cell 1).trans rfl
      have f2 := (hq4.cell 2).trans rfl
      have hz4q := hq4.lt
      have HBQ := Lib.hid hbq; have HQ4 := Lib.hid hq4
      clear hbq hq4 d0 d1 d2
      go_upto_region 8 with fail
      obtain ⟨W8, hW8⟩ : ∃ X, X = (((wq.setCell ⟨g4, 0, none⟩ (.slice A bs.length c)).setCell ⟨g4, 1, none⟩ (.int .i64 (s3.1 : Int))).setCell ⟨g4, 2, none⟩ (.int .i64 s3.2)).alloc (.cells #[.slice A bs.length c, .int .i64 (s3.1 : Int), .int .i64 s3.2] 90) := ⟨_, rfl⟩
      have hf8 : Fr (fun i => i = g4) wq W8 := by rw [hW8]; exact (fr3 _ _ _).alloc _
      have h84 : Blk W8 g4 90 #[.slice A bs.length c, .int .i64 (s3.1 : Int), .int .i64 s3.2] := by rw [hW8]; exact (blk3 HQ4.out _ _ _).alloc _
      have h82 : Blk W8 (w.heap.size + 1) 90 #[.slice none 0 0, .int .i64 0, .int .i64 0] := hf8.blk (HB2.out.below HBQ.out HB2.out.lt) (by omega)
      have h86 : W8.ownsRow w.heap.size 3 1 (.slice A6 k c6) k (IS l) := own_fr1 (own_bel HROW.out HBQ.out) HQ4.out (by decide) hf8
      have h8b : Below w.heap.size w W8 := (HBEL.out.trans (HBQ.out.mono zr)).trans (hf8.below (by omega) (fun i hi => by omega))
      have HW8 := Lib.hid hW8.symm; have H84 := Lib.hid h84; have H82 := Lib.hid h82; have H86 := Lib.hid h86; have H8B := Lib.hid h8b
      have z8 := h8b.size
      clear hf8 h84 h82 h86 h8b hW8 e0 e1 e2 f0 f1 f2
      rw [HW8.out]
      go_wp2_with (at_builtin; go_must (refine wpList_append_any _ rfl (.tmp 26) (.tmp 28) _ rfl w.heap.size 3 i0 _ 1 8 Try.underlying23 hi0 hz0 hz1 hz2 rfl (by decide) (.slice A6 k c6) k (IS l) rfl (H86.out.alloc _) (W8.heap.size + 1) (some ⟨W8.heap.size, 0, none⟩) 1 1 [.int .i64 x] rfl (reads_new W8 (.int .i64 x) _) (by intro u hu; simp at hu; subst hu; rfl) ?c1 ?c2 ?c3 ?k))
      case c1 => unfold maxLen; omega
      case c2 => omega
      case c3 => simp; omega
      case k =>
      intro v3 w3 hown3 hg3 hat3
      have hob4 := (H84.out.alloc (.cells #[.int .i64 x] 3)).grown hg3 (fun e => own_blk_ne H86.out H84.out (by decide) e.symm)
      have hob2 := (H82.out.alloc (.cells #[.int .i64 x] 3)).grown hg3 (fun e => own_blk_ne H86.out H82.out (by decide) e.symm)
      have hbel3 : Below w.heap.size w w3 := (H8B.out.alloc z8 _).grown hg3 (by simp; omega) (fun r hr => by have := (H86.out.lt r hr).1; omega)
      have hrw3 : RwI w3 w.heap.size v3 (l ++ [x]) := by simpa [RwI, IS, HLEN.out] using hown3
      have HO4 := Lib.hid hob4; have HO2 := Lib.hid hob2; have HBE3 := Lib.hid hbel3; have HRW3 := Lib.hid hrw3
      clear hob4 hob2 hbel3 hrw3 hown3 hg3 hat3
      go_wp2_with fail
      exact ⟨⟨k + 1, by omega, by go_num, by rw [HNX.out]; exact HRW3.out, by rw [HNX.out]; exact HO4.out, HO2.out, HBE3.out⟩, by simp [intOf]; omega⟩
    · obtain rfl : k = n := by omega
      obtain ⟨A6, c6, rfl⟩ := RwI_slice hrow
      have d0 := (hb4.cell 0).trans rfl
      have d1 := (hb4.cell 1).trans rfl
      have d2 := (hb4.cell 2).trans rfl
      have e0 := hb2.frozen 0
      have e1 := hb2.frozen 1
      have e2 := hb2.frozen 2
      have f0 := (hb2.cell 0).trans rfl
      have f1 := (hb2.cell 1).trans rfl
      have f2 := (hb2.cell 2).trans rfl
      have hz2' := hb2.lt
      have hrf := hrow.fr1 hb2 (by decide) (fr3 (.slice A bs.length c) (.int .i64 ((iterP (stP sh bs) k s1).2.1 : Int)) (.int .i64 (iterP (stP sh bs) k s1).2.2))
      have hbf : Below w.heap.size w (((wr.setCell ⟨w.heap.size + 1, 0, none⟩ (.slice A bs.length c)).setCell ⟨w.heap.size + 1, 1, none⟩ (.int .i64 ((iterP (stP sh bs) k s1).2.1 : Int))).setCell ⟨w.heap.size + 1, 2, none⟩ (.int .i64 (iterP (stP sh bs) k s1).2.2)) :=
        ((hbel.setCell (p := ⟨w.heap.size + 1, 0, none⟩) (show w.heap.size ≤ w.heap.size + 1 by omega) _).setCell (p := ⟨w.heap.size + 1, 1, none⟩) (show w.heap.size ≤ w.heap.size + 1 by omega) _).setCell (p := ⟨w.heap.size + 1, 2, none⟩) (show w.heap.size ≤ w.heap.size + 1 by omega) _
      have HRF := Lib.hid hrf; have HBF := Lib.hid hbf
      clear hrow hb4 hb2 hbel hlen hle hrf hbf
      generalize hit : iterP (stP sh bs) k s1 = it at *
      obtain ⟨l, s2⟩ := it
      simp only at *
      have HIT := Lib.hid hit
      clear hit
      go_wp2_with fail
      refine bodyPost_ret (v := .tuple #[.agg #[.slice A bs.length c, .int .i64 (s2.1 : Int), .int .i64 s2.2], .slice A6 l.length c6]) (by simp [results, Try.results62, go_sem, f0, f1, f2, e0, e1, e2, hz2']) rfl ?_
      rw [HIT.out]
      exact ⟨A6, c6, rfl, HRF.out, HBF.out⟩
def FunR (bs : List Nat) (lo : Int) (s1 : Sx) (n c : Nat) (A : Option Addr) (w : World) (g7 : Nat) (s9 : Value) (wr : World) : Prop :=
  ∃ k : Nat, k ≤ n ∧ s9 = .int .i64 (k : Int) ∧ ∃ A6 c6, RwN wr w.heap.size (.slice A6 k c6) (iterP (instrP bs) k s1).1 ∧ Blk wr (w.heap.size + 1 + 1 + 1) 45 #[.int .i64 lo, .slice A6 k c6] ∧
    Blk wr g7 90 #[.slice A bs.length c, .int .i64 ((iterP (instrP bs) k s1).2.1 : Int), .int .i64 (iterP (instrP bs) k s1).2.2] ∧ Blk wr (w.heap.size + 1) 90 #[.slice none 0 0, .int .i64 0, .int .i64 0] ∧ Blk wr (w.heap.size + 1 + 1) 45 #[.int .i64 0, .slice none 0 0] ∧ Below w.heap.size w wr
set_option maxHeartbeats 8000000 in
set_option maxRecDepth 100000 in
theorem refFunction (bs : List Nat) (c : Nat) (A : Option Addr) (s : Sx) (w : World) (BB : Nat) (hr : Reads w BB 1 A bs.length (BS bs)) (hB : BB ≤ w.heap.size) (hx : ∀ x ∈ bs, x < 256) (hnc : bs.length ≤ c) (hn : bs.length ≤ 140737488355328) (hs : s.1 ≤ bs.length) :
    Calls Try.prog 60 #[.agg #[.slice A bs.length c, .int .i64 (s.1 : Int), .int .i64 s.2]] w fun e w' => ∃ A' c', e = .returned (.tuple #[.agg #[.slice A bs.length c, .int .i64 ((funcP bs s).2.1 : Int), .int .i64 (funcP bs s).2.2], .agg #[.int .i64 (funcP bs s).1.locals, .slice A' (funcP bs s).1.code.length c']]) ∧ RwN w' w.heap.size (.slice A' (funcP bs s).1.code.length c') (funcP bs s).1.code ∧ Below w.heap.size w w' := by
  obtain ⟨a, e⟩ := s
  simp only at hs
  obtain ⟨i0, hi0, hz0, hz1, hz2⟩ := info_parts info_instr
  have hsh := (told_short bs c a A e 0 0 (.int .i64 0) BB hx hnc hn hs).1
  have hle0 := stP_le goes_sh hx (s := (a, e)) hs
  unfold funcP
  generalize stP sh bs (a, e) = q0 at *
  obtain ⟨lo, s0⟩ := q0
  simp only at hsh hle0 ⊢
  have hl := (told_list bs c s0.1 A s0.2 0 0 (.int .i64 0) BB hx hnc hn hle0 64).1
  obtain ⟨n, hn1, hn2, hn3⟩ := ls_nat 64 bs s0
  have hle := stP_le (goes_ls 64) hx (s := s0) hle0
  have hlp : listP (instrP bs) 64 bs s0 = iterP (instrP bs) n (stP (ls 64) bs s0).2 := by unfold listP; rw [hn1]; rfl
  rw [hn1] at hl
  generalize stP (ls 64) bs s0 = q at *
  obtain ⟨q1, s1⟩ := q
  simp only at hl hlp hn1 hle
  rw [hlp]
  have hfx : ∀ s' : Sx, s'.1 ≤ bs.length → RefT 88 #[.agg #[.slice A bs.length c, .int .i64 (s'.1 : Int), .int .i64 s'.2], .int .i64 ((1 : Nat) : Int)] A bs.length c (stP fx bs s').2.1 (stP fx bs s').2.2 (.int .u64 (stP fx bs s').1) BB bs := fun s' h => (told_fixed bs c s'.1 A s'.2 0 0 (.int .i64 0) BB hx hnc hn h).1
  have hsg : ∀ s' : Sx, s'.1 ≤ bs.length → RefT 89 #[.agg #[.slice A bs.length c, .int .i64 (s'.1 : Int), .int .i64 s'.2]] A bs.length c (stP sg bs s').2.1 (stP sg bs s').2.2 (.int .i64 (stP sg bs s').1) BB bs := fun s' h => (told_signed bs c s'.1 A s'.2 0 0 (.int .i64 0) BB hx hnc hn h).1
  have hst := (stays_instr hx).iter (bs := bs)
  have hfs : ∀ s' : Sx, s'.1 ≤ bs.length → (stP fx bs s').2.1 ≤ bs.length := fun s' h => stP_le goes_fx hx h
  have hf0 := fx_small hx
  have HSH := Lib.hid hsh; have HL := Lib.hid hl; have HFX := Lib.hid hfx; have HSG := Lib.hid hsg; have HR := Lib.hid hr; have HFS := Lib.hid hfs; have HF0 := Lib.hid hf0
  have HST : Hid (∀ k, (iterP (instrP bs) k s1).2.1 ≤ bs.length) := fun k => hst k s1 hle
  clear hsh hl hlp hn1 hs hx hfx hsg hr hst hle hle0 hfs hf0
  go_enter Try.func60, Try.ntmps60
  obtain ⟨T1, T2, T3, T4⟩ := three w 90 90 45 #[.slice A bs.length c, .int .i64 (a : Int), .int .i64 e] #[.slice none 0 0, .int .i64 0, .int .i64 0] #[.int .i64 0, .slice none 0 0]
  obtain ⟨W, hW⟩ : ∃ X, X = (((w.alloc (.cells #[.slice A bs.length c, .int .i64 (a : Int), .int .i64 e] 90)).alloc (.cells #[.slice none 0 0, .int .i64 0, .int .i64 0] 90)).alloc (.cells #[.int .i64 0, .slice none 0 0] 45)).alloc (.cells #[.int .i64 0, .slice none 0 0] 45) := ⟨_, rfl⟩
  have k0 : Blk W w.heap.size 90 #[.slice A bs.length c, .int .i64 (a : Int), .int .i64 e] := by rw [hW]; exact T1.alloc _
  have k1 : Blk W (w.heap.size + 1) 90 #[.slice none 0 0, .int .i64 0, .int .i64 0] := by rw [hW]; exact T2.alloc _
  have k2 : Blk W (w.heap.size + 1 + 1) 45 #[.int .i64 0, .slice none 0 0] := by rw [hW]; exact T3.alloc _
  have k3 : Blk W (w.heap.size + 1 + 1 + 1) 45 #[.int .i64 0, .slice none 0 0] := by rw [hW]; simpa using Blk.new (((w.alloc (.cells #[.slice A bs.length c, .int .i64 (a : Int), .int .i64 e] 90)).alloc (.cells #[.slice none 0 0, .int .i64 0, .int .i64 0] 90)).alloc (.cells #[.int .i64 0, .slice none 0 0] 45)) 45 #[.int .i64 0, .slice none 0 0]
  have kb : Below w.heap.size w W := by rw [hW]; exact T4.alloc (by simp; omega) _
  have zk := k3.lt
  have HW := Lib.hid hW.symm; have K1 := Lib.hid k1; have K2 := Lib.hid k2; have K3 := Lib.hid k3; have KB := Lib.hid kb
  have c0 := (k0.cell 0).trans rfl
  have c1 := (k0.cell 1).trans rfl
  have c2 := (k0.cell 2).trans rfl
  clear T1 T2 T3 T4 hW k0 k1 k2 k3 kb
  go_upto_region 2 with fail
  rw [HW.out]
  go_wp2_with fail
  refine (HSH.out W (HR.out.below (KB.out.mono hB)) (by omega)).mono ?_
  rintro en w1 ⟨rfl, hb1⟩
  have z1 := hb1.size
  have hk3 := K3.out.below hb1 zk
  have g0 := (hk3.cell 0).trans rfl
  have g1 := hk3.frozen 0
  have gz := hk3.lt
  obtain ⟨U4, hU4⟩ : ∃ X, X = (w1.setCell ⟨(w.heap.size + 1 + 1 + 1), 0, none⟩ (.int .i64 lo)).alloc (.cells #[.slice A bs.length c, .int .i64 (s0.1 : Int), .int .i64 s0.2] 90) := ⟨_, rfl⟩
  have hf4 : Fr (fun i => i = (w.heap.size + 1 + 1 + 1)) w1 U4 := by rw [hU4]; exact ((Fr.refl (fun j => j = (w.heap.size + 1 + 1 + 1)) w1).setCell (p := ⟨(w.heap.size + 1 + 1 + 1), 0, none⟩) (.inl rfl) _).alloc _
  have u1 : Blk U4 (w.heap.size + 1) 90 #[.slice none 0 0, .int .i64 0, .int .i64 0] := hf4.blk (K1.out.below hb1 K1.out.lt) (by omega)
  have u2 : Blk U4 (w.heap.size + 1 + 1) 45 #[.int .i64 0, .slice none 0 0] := hf4.blk (K2.out.below hb1 K2.out.lt) (by omega)
  have u3 : Blk U4 (w.heap.size + 1 + 1 + 1) 45 #[.int .i64 lo, .slice none 0 0] := by rw [hU4]; exact (by simpa using hk3.set_ 0 (.int .i64 lo) : Blk _ _ _ _).alloc _
  have u5 : Blk U4 w1.heap.size 90 #[.slice A bs.length c, .int .i64 (s0.1 : Int), .int .i64 s0.2] := by rw [hU4]; simpa using Blk.new (w1.setCell ⟨(w.heap.size + 1 + 1 + 1), 0, none⟩ (.int .i64 lo)) 90 #[.slice A bs.length c, .int .i64 (s0.1 : Int), .int .i64 s0.2]
  have ub : Below w.heap.size w U4 := (KB.out.trans (hb1.mono (by omega))).trans (hf4.below (by omega) (fun i hi => by omega))
  have HU4 := Lib.hid hU4.symm; have UU1 := Lib.hid u1; have UU2 := Lib.hid u2; have UU3 := Lib.hid u3; have UB := Lib.hid ub
  have zu := u5.lt
  have d0 := (u5.cell 0).trans rfl
  have d1 := (u5.cell 1).trans rfl
  have d2 := (u5.cell 2).trans rfl
  clear hb1 hk3 hU4 hf4 u1 u2 u3 u5 ub c0 c1 c2
  go_upto_region 4 with fail
  rw [HU4.out]
  clear g0 g1 gz
  go_wp2_with fail
  refine (HL.out U4 (HR.out.below (UB.out.mono hB)) (by omega)).mono ?_
  rintro en w2 ⟨rfl, hb2⟩
  have z2 := hb2.size
  have v1 := UU1.out.below hb2 UU1.out.lt
  have v2 := UU2.out.below hb2 UU2.out.lt
  have v3 := UU3.out.below hb2 UU3.out.lt
  have vb : Below w.heap.size w w2 := UB.out.trans (hb2.mono (by omega))
  have V1 := Lib.hid (v1.alloc (.cells #[.slice A bs.length c, .int .i64 (s1.1 : Int), .int .i64 s1.2] 90)); have V2 := Lib.hid (v2.alloc (.cells #[.slice A bs.length c, .int .i64 (s1.1 : Int), .int .i64 s1.2] 90)); have V3 := Lib.hid (v3.alloc (.cells #[.slice A bs.length c, .int .i64 (s1.1 : Int), .int .i64 s1.2] 90)); have VB := Lib.hid (vb.alloc (by omega) (.cells #[.slice A bs.length c, .int .i64 (s1.1 : Int), .int .i64 s1.2] 90))
  have V7 := Lib.hid (Blk.new w2 90 #[.slice A bs.length c, .int .i64 (s1.1 : Int), .int .i64 s1.2])
  clear hb2 v1 v2 v3 vb d0 d1 d2
  generalize hg7 : w2.heap.size = g7 at V7
  have HG7 := Lib.hid hg7
  have z7 : (w.heap.size + 1 + 1 + 1) < g7 := by omega
  clear hg7
  go_wp2_with fail
  rw [HG7.out]
  go_loopw [9] (fun s9 wr => FunR bs lo s1 n c A w g7 s9 wr) (fun s9 _ => n - (intOf s9).toNat)
  case atStart => exact ⟨0, by omega, rfl, none, 0, World.ownsRow_nil _ _ _ _, V3.out, V7.out, V1.out, V2.out, VB.out⟩
  case round =>
    obtain ⟨k, hk, rfl, A6, c6, hrow, hb3, hb7, hb1', hb2', hbel⟩ := hrel
    have hlen := iterP_length (instrP bs) k s1
    have hle := HST.out k
    by_cases hlt : k < n
    · have hnx : iterP (instrP bs) (k + 1) s1 = ((iterP (instrP bs) k s1).1 ++ [(instrP bs (iterP (instrP bs) k s1).2).1], (instrP bs (iterP (instrP bs) k s1).2).2) := rfl
      generalize iterP (instrP bs) k s1 = it at hrow hb7 hlen hnx hle
      obtain ⟨l, s2⟩ := it
      simp only at hrow hb7 hlen hnx hle
      have zr := hbel.size
      have hcall := HFX.out s2 hle wr (HR.out.below (hbel.mono hB)) (by omega)
      have hle2 := HFS.out s2 hle
      have hx0 := HF0.out s2
      obtain ⟨NX, hN0⟩ : ∃ q, q = iterP (instrP bs) (k + 1) s1 := ⟨_, rfl⟩
      rw [← hN0] at hnx
      have HN0 := Lib.hid hN0
      clear hN0
      unfold instrP at hnx
      generalize stP fx bs s2 = qx at hcall hnx hle2 hx0
      obtain ⟨x, sx⟩ := qx
      simp only at hcall hnx hle2 hx0
      obtain ⟨hx0, hx1⟩ := hx0
      unfold RwN at hrow
      rw [hlen] at hrow
      have d0 := (hb7.cell 0).trans rfl
      have d1 := (hb7.cell 1).trans rfl
      have d2 := (hb7.cell 2).trans rfl
      have HROW := Lib.hid hrow; have HB3 := Lib.hid hb3; have HB7 := Lib.hid hb7; have HB1 := Lib.hid hb1'; have HB2 := Lib.hid hb2'; have HBEL := Lib.hid hbel; have HNX := Lib.hid hnx; have HLEN := Lib.hid hlen; have HCALL := Lib.hid hcall; have HLE2 := Lib.hid hle2
      clear hrow hb3 hb7 hb1' hb2' hbel hnx hlen hcall hle hle2
      go_wp2_with fail
      refine HCALL.out.mono ?_
      rintro en wa ⟨rfl, hba⟩
      have za := hba.size
      obtain ⟨Ua, hUa⟩ : ∃ X, X = wa.alloc (.cells #[.slice A bs.length c, .int .i64 (sx.1 : Int), .int .i64 sx.2] 90) := ⟨_, rfl⟩
      have hka : Blk Ua wa.heap.size 90 #[.slice A bs.length c, .int .i64 (sx.1 : Int), .int .i64 sx.2] := by rw [hUa]; exact Blk.new _ _ _
      have hbua : Below wr.heap.size wr Ua := by rw [hUa]; exact hba.alloc za _
      have HUA := Lib.hid hUa.symm; have HBUA := Lib.hid hbua
      have zua := hbua.size
      have d3 := (hka.cell 0).trans rfl
      have d4 := (hka.cell 1).trans rfl
      have d5 := (hka.cell 2).trans rfl
      clear hba hUa hka hbua d0 d1 d2
      go_upto_region 9 with fail
      rw [HUA.out]
      have hcall2 := HSG.out sx HLE2.out Ua (HR.out.below ((HBEL.out.trans (HBUA.out.mono zr)).mono hB)) (by omega)
      have hnx2 := HNX.out
      clear HNX
      generalize stP sg bs sx = qy at hcall2 hnx2
      obtain ⟨y, s3⟩ := qy
      simp only at hcall2 hnx2
      have HCALL2 := Lib.hid hcall2; have HNX := Lib.hid hnx2
      clear hcall2 hnx2
      go_wp2_with fail
      refine HCALL2.out.mono ?_
      rintro en wb ⟨rfl, hbb⟩
      have hbwb : Below wr.heap.size wr wb := HBUA.out.trans (hbb.mono zua)
      have q7 := HB7.out.below hbwb HB7.out.lt
      have zb := hbwb.size
      have z7b := q7.lt
      have e0 := q7.frozen 0
      have e1 := q7.frozen 1
      have e2 := q7.frozen 2
      have f0 := (q7.cell 0).trans rfl
      have f1 := (q7.cell 1).trans rfl
      have f2 := (q7.cell 2).trans rfl
      have HBWB := Lib.hid hbwb; have Q7 := Lib.hid q7
      clear hbb hbwb q7 d3 d4 d5
      go_upto_region 11 with fail
      obtain ⟨W8, hW8⟩ : ∃ X, X = (((wb.setCell ⟨g7, 0, none⟩ (.slice A bs.length c)).setCell ⟨g7, 1, none⟩ (.int .i64 (s3.1 : Int))).setCell ⟨g7, 2, none⟩ (.int .i64 s3.2)).alloc (.cells #[.slice A bs.length c, .int .i64 (s3.1 : Int), .int .i64 s3.2] 90) := ⟨_, rfl⟩
      have hf8 : Fr (fun i => i = g7) wb W8 := by rw [hW8]; exact (fr3 _ _ _).alloc _
      have h87 : Blk W8 g7 90 #[.slice A bs.length c, .int .i64 (s3.1 : Int), .int .i64 s3.2] := by rw [hW8]; exact (blk3 Q7.out _ _ _).alloc _
      have h81 : Blk W8 (w.heap.size + 1) 90 #[.slice none 0 0, .int .i64 0, .int .i64 0] := hf8.blk (HB1.out.below HBWB.out HB1.out.lt) (by omega)
      have h82 : Blk W8 (w.heap.size + 1 + 1) 45 #[.int .i64 0, .slice none 0 0] := hf8.blk (HB2.out.below HBWB.out HB2.out.lt) (by omega)
      have h83 : Blk W8 (w.heap.size + 1 + 1 + 1) 45 #[.int .i64 lo, .slice A6 k c6] := hf8.blk (HB3.out.below HBWB.out HB3.out.lt) (by omega)
      have h86 : W8.ownsRow w.heap.size 47 2 (.slice A6 k c6) k (CS l) := own_fr1 (own_bel HROW.out HBWB.out) Q7.out (by decide) hf8
      have h8b : Below w.heap.size w W8 := (HBEL.out.trans (HBWB.out.mono zr)).trans (hf8.below (by omega) (fun i hi => by omega))
      have HW8 := Lib.hid hW8.symm; have H87 := Lib.hid h87; have H81 := Lib.hid h81; have H82 := Lib.hid h82; have H83 := Lib.hid h83; have H86 := Lib.hid h86; have H8B := Lib.hid h8b
      have z8 := h8b.size
      have z83 := h83.lt
      have p1 := (h83.cell 1).trans rfl
      clear hf8 h87 h81 h82 h83 h86 h8b hW8 e0 e1 e2 f0 f1 f2
      rw [HW8.out]
      go_wp2_with (at_builtin; go_must (refine wpList_append_any _ rfl (.tmp 43) (.tmp 48) _ rfl w.heap.size 47 i0 _ 2 16 Try.underlying43 hi0 hz0 hz1 hz2 rfl (by decide) (.slice A6 k c6) k (CS l) rfl (H86.out.alloc _) (W8.heap.size + 1) (some ⟨W8.heap.size, 0, none⟩) 1 1 [.int .i64 x, .int .i64 y] rfl (reads_new2 W8 (.int .i64 x) (.int .i64 y) _) (by intro u hu; simp at hu; rcases hu with rfl | rfl <;> rfl) ?c1 ?c2 ?c3 ?k))
      case c1 => unfold maxLen; omega
      case c2 => omega
      case c3 => simp; omega
      case k =>
      intro v3 w3 hown3 hg3 hat3
      obtain ⟨A9, c9, rfl, _, _⟩ := own_slice hown3
      have r7 := (H87.out.alloc (.cells #[.int .i64 x, .int .i64 y] 47)).grown hg3 (fun e => own_blk_ne H86.out H87.out (by decide) e.symm)
      have r1 := (H81.out.alloc (.cells #[.int .i64 x, .int .i64 y] 47)).grown hg3 (fun e => own_blk_ne H86.out H81.out (by decide) e.symm)
      have r2 := (H82.out.alloc (.cells #[.int .i64 x, .int .i64 y] 47)).grown hg3 (fun e => own_blk_ne H86.out H82.out (by decide) e.symm)
      have r3 := (H83.out.alloc (.cells #[.int .i64 x, .int .i64 y] 47)).grown hg3 (fun e => own_blk_ne H86.out H83.out (by decide) e.symm)
      have hbel3 : Below w.heap.size w w3 := (H8B.out.alloc z8 _).grown hg3 (by simp; omega) (fun r hr => by have := (H86.out.lt r hr).1; omega)
      have hrw3 : RwN w3 w.heap.size (.slice A9 (k + 1) c9) (l ++ [⟨x, y⟩]) := by simpa [RwN, CS, flat2, HLEN.out] using hown3
      have p2 := (r3.cell 1).trans rfl
      have p3 := r3.frozen 1
      have p4 := r3.lt
      have fs3 : Fr (fun j => j = (w.heap.size + 1 + 1 + 1)) w3 (w3.setCell ⟨(w.heap.size + 1 + 1 + 1), 1, none⟩ (.slice A9 (k + 1) c9)) := (Fr.refl (fun j => j = (w.heap.size + 1 + 1 + 1)) w3).setCell (p := ⟨(w.heap.size + 1 + 1 + 1), 1, none⟩) (.inl rfl) _
      have S7 := Lib.hid (fs3.blk r7 (by omega)); have S1 := Lib.hid (fs3.blk r1 (by omega)); have S2 := Lib.hid (fs3.blk r2 (by omega))
      have S3 : Hid (Blk (w3.setCell ⟨(w.heap.size + 1 + 1 + 1), 1, none⟩ (.slice A9 (k + 1) c9)) (w.heap.size + 1 + 1 + 1) 45 #[.int .i64 lo, .slice A9 (k + 1) c9]) := by simpa [Hid] using r3.set_ 1 (.slice A9 (k + 1) c9)
      have S6 : Hid (RwN (w3.setCell ⟨(w.heap.size + 1 + 1 + 1), 1, none⟩ (.slice A9 (k + 1) c9)) w.heap.size (.slice A9 (k + 1) c9) (l ++ [⟨x, y⟩])) := own_fr1 hrw3 r3 (by decide) fs3
      have SB := Lib.hid (hbel3.trans (fs3.below (B := w.heap.size) hbel3.size (fun i hi => by omega)))
      clear r7 r1 r2 r3 hbel3 hrw3 fs3 hown3 hg3 hat3
      go_wp2_with fail
      exact ⟨⟨k + 1, by omega, by go_num, A9, c9, by rw [← HN0.out, HNX.out]; exact S6.out, S3.out, by rw [← HN0.out, HNX.out]; exact S7.out, S1.out, S2.out, SB.out⟩, by simp [intOf]; omega⟩
    · obtain rfl : k = n := by omega
      generalize hit : iterP (instrP bs) k s1 = it at *
      obtain ⟨l, s2⟩ := it
      simp only at hrow hb7 hlen
      have HIT := Lib.hid hit
      have d0 := (hb7.cell 0).trans rfl
      have d1 := (hb7.cell 1).trans rfl
      have d2 := (hb7.cell 2).trans rfl
      have p0 := (hb3.cell 0).trans rfl
      have p1 := (hb3.cell 1).trans rfl
      have e0 := hb1'.frozen 0
      have e1 := hb1'.frozen 1
      have e2 := hb1'.frozen 2
      have f0 := (hb1'.cell 0).trans rfl
      have f1 := (hb1'.cell 1).trans rfl
      have f2 := (hb1'.cell 2).trans rfl
      have h0 := hb2'.frozen 0
      have h1 := hb2'.frozen 1
      have j0 := (hb2'.cell 0).trans rfl
      have j1 := (hb2'.cell 1).trans rfl
      have x1 := hb1'.lt
      have x2 := hb2'.lt
      have x3 := hb3.lt
      have x7 := hb7.lt
      have HROW := Lib.hid hrow; have HB1 := Lib.hid hb1'; have HB2 := Lib.hid hb2'; have HBEL := Lib.hid hbel; have HLEN := Lib.hid hlen; have HB7 := Lib.hid hb7; have HB3 := Lib.hid hb3
      clear hrow hb3 hb7 hb1' hb2' hbel hlen hle hit
      have KP : Hid (∀ w', Fr (fun i => i = (w.heap.size + 1) ∨ i = (w.heap.size + 1 + 1)) wr w' → w'.cell? ⟨g7, 0, none⟩ = some (.slice A bs.length c) ∧ w'.cell? ⟨g7, 1, none⟩ = some (.int .i64 (s2.1 : Int)) ∧ w'.cell? ⟨g7, 2, none⟩ = some (.int .i64 s2.2) ∧ w'.cell? ⟨(w.heap.size + 1 + 1 + 1), 0, none⟩ = some (.int .i64 lo) ∧ w'.cell? ⟨(w.heap.size + 1 + 1 + 1), 1, none⟩ = some (.slice A6 k c6)) := fun w' hf => by
        have a7 := hf.blk HB7.out (by omega)
        have a3 := hf.blk HB3.out (by omega)
        exact ⟨(a7.cell 0).trans rfl, (a7.cell 1).trans rfl, (a7.cell 2).trans rfl, (a3.cell 0).trans rfl, (a3.cell 1).trans rfl⟩
      have fa : Fr (fun i => i = (w.heap.size + 1) ∨ i = (w.heap.size + 1 + 1)) wr (((wr.setCell ⟨(w.heap.size + 1), 0, none⟩ (.slice A bs.length c)).setCell ⟨(w.heap.size + 1), 1, none⟩ (.int .i64 (s2.1 : Int))).setCell ⟨(w.heap.size + 1), 2, none⟩ (.int .i64 s2.2)) := (fr3 _ _ _).mono (fun i _ h => .inl h)
      have fb : Fr (fun i => i = (w.heap.size + 1) ∨ i = (w.heap.size + 1 + 1)) wr (((((wr.setCell ⟨(w.heap.size + 1), 0, none⟩ (.slice A bs.length c)).setCell ⟨(w.heap.size + 1), 1, none⟩ (.int .i64 (s2.1 : Int))).setCell ⟨(w.heap.size + 1), 2, none⟩ (.int .i64 s2.2)).setCell ⟨(w.heap.size + 1 + 1), 0, none⟩ (.int .i64 lo)).setCell ⟨(w.heap.size + 1 + 1), 1, none⟩ (.slice A6 k c6)) := (fa.setCell (p := ⟨(w.heap.size + 1 + 1), 0, none⟩) (.inl (.inr rfl)) _).setCell (p := ⟨(w.heap.size + 1 + 1), 1, none⟩) (.inl (.inr rfl)) _
      have FA := Lib.hid fa; have FB := Lib.hid fb
      have hrwf : RwN (((((wr.setCell ⟨(w.heap.size + 1), 0, none⟩ (.slice A bs.length c)).setCell ⟨(w.heap.size + 1), 1, none⟩ (.int .i64 (s2.1 : Int))).setCell ⟨(w.heap.size + 1), 2, none⟩ (.int .i64 s2.2)).setCell ⟨(w.heap.size + 1 + 1), 0, none⟩ (.int .i64 lo)).setCell ⟨(w.heap.size + 1 + 1), 1, none⟩ (.slice A6 k c6)) w.heap.size (.slice A6 k c6) l := by
        unfold RwN
        have r1 := own_fr1 HROW.out HB1.out (by decide) (fr3 (.slice A bs.length c) (.int .i64 (s2.1 : Int)) (.int .i64 s2.2))
        exact own_set2 r1 ((fr3 (b := (w.heap.size + 1)) (.slice A bs.length c) (.int .i64 (s2.1 : Int)) (.int .i64 s2.2)).blk HB2.out (by omega)) (by decide) (.int .i64 lo) (.slice A6 k c6)
      have hbf : Below w.heap.size w (((((wr.setCell ⟨(w.heap.size + 1), 0, none⟩ (.slice A bs.length c)).setCell ⟨(w.heap.size + 1), 1, none⟩ (.int .i64 (s2.1 : Int))).setCell ⟨(w.heap.size + 1), 2, none⟩ (.int .i64 s2.2)).setCell ⟨(w.heap.size + 1 + 1), 0, none⟩ (.int .i64 lo)).setCell ⟨(w.heap.size + 1 + 1), 1, none⟩ (.slice A6 k c6)) := HBEL.out.trans (fb.below HBEL.out.size (fun i hi => by omega))
      have HRWF := Lib.hid hrwf; have HBF := Lib.hid hbf
      have L1 : Blk (((((wr.setCell ⟨(w.heap.size + 1), 0, none⟩ (.slice A bs.length c)).setCell ⟨(w.heap.size + 1), 1, none⟩ (.int .i64 (s2.1 : Int))).setCell ⟨(w.heap.size + 1), 2, none⟩ (.int .i64 s2.2)).setCell ⟨(w.heap.size + 1 + 1), 0, none⟩ (.int .i64 lo)).setCell ⟨(w.heap.size + 1 + 1), 1, none⟩ (.slice A6 k c6)) (w.heap.size + 1) 90 #[.slice A bs.length c, .int .i64 (s2.1 : Int), .int .i64 s2.2] := (Blk.far (p := ⟨(w.heap.size + 1 + 1), 1, none⟩) (Blk.far (p := ⟨(w.heap.size + 1 + 1), 0, none⟩) (blk3 HB1.out _ _ _) (show (w.heap.size + 1) ≠ (w.heap.size + 1 + 1) by omega) _) (show (w.heap.size + 1) ≠ (w.heap.size + 1 + 1) by omega) _)
      have L2 : Blk (((((wr.setCell ⟨(w.heap.size + 1), 0, none⟩ (.slice A bs.length c)).setCell ⟨(w.heap.size + 1), 1, none⟩ (.int .i64 (s2.1 : Int))).setCell ⟨(w.heap.size + 1), 2, none⟩ (.int .i64 s2.2)).setCell ⟨(w.heap.size + 1 + 1), 0, none⟩ (.int .i64 lo)).setCell ⟨(w.heap.size + 1 + 1), 1, none⟩ (.slice A6 k c6)) (w.heap.size + 1 + 1) 45 #[.int .i64 lo, .slice A6 k c6] := by simpa using (((fr3 (b := (w.heap.size + 1)) (.slice A bs.length c) (.int .i64 (s2.1 : Int)) (.int .i64 s2.2)).blk HB2.out (by omega)).set_ 0 (.int .i64 lo)).set_ 1 (.slice A6 k c6)
      clear fa fb hrwf hbf
      have g20 := (L1.drew.cell 0).trans rfl
      have g21 := (L1.drew.cell 1).trans rfl
      have g22 := (L1.drew.cell 2).trans rfl
      have g30 := (L2.drew.cell 0).trans rfl
      have g31 := (L2.drew.cell 1).trans rfl
      have g4 := L1.lt
      have g5 := L2.lt
      clear L1 L2
      go_upto_region 12 with fail
      refine wp_region_noPanic ?_
      refine wp_region_held_drew (S := fun w' => w'.cell? ⟨g7, 0, none⟩ = some (.slice A bs.length c) ∧ w'.cell? ⟨g7, 1, none⟩ = some (.int .i64 (s2.1 : Int)) ∧ w'.cell? ⟨g7, 2, none⟩ = some (.int .i64 s2.2) ∧ w'.cell? ⟨(w.heap.size + 1 + 1 + 1), 0, none⟩ = some (.int .i64 lo) ∧ w'.cell? ⟨(w.heap.size + 1 + 1 + 1), 1, none⟩ = some (.slice A6 k c6)) (by kernel_rfl) (KP.out _ (Fr.refl _ _).drew) (fun hHeld => ?_)
      refine take_yes (i := 0) (v := ?v0) rfl (by kernel_rfl) (by kernel_rfl) (by kernel_rfl) (fun _ _ _ h => h) (by rfl) (by assumption) ?hy0 ?rest0
      case hy0 => (intro w hSw; obtain ⟨d0, d1, d2, p0, p1⟩ := hSw; go_simp; try (with_reducible rfl))
      try simp only [Act.put, List.setIfInBounds_toArray, List.set_cons_zero, List.set_cons_succ]
      refine take_yes (i := 1) (v := ?v1) rfl (by kernel_rfl) (by kernel_rfl) (by kernel_rfl) (fun _ _ _ h => h) (by rfl) (by assumption) ?hy1 ?rest1
      case hy1 => (intro w hSw; obtain ⟨d0, d1, d2, p0, p1⟩ := hSw; go_simp; try (with_reducible rfl))
      try simp only [Act.put, List.setIfInBounds_toArray, List.set_cons_zero, List.set_cons_succ]
      refine ready_one (i := 2) rfl (by kernel_rfl) (fun K hK => ?_)
      go_simp
      refine hK.out _ _ (KP.out _ FA.out.drew) (fun hHeld => ?_)
      clear hK K
      try simp only [Act.put, List.setIfInBounds_toArray, List.set_cons_zero, List.set_cons_succ]
      refine ready_one (i := 3) rfl (by kernel_rfl) (fun K hK => ?_)
      go_simp
      refine hK.out _ _ (KP.out _ FB.out.drew) (fun hHeld => ?_)
      clear hK K
      try simp only [Act.put, List.setIfInBounds_toArray, List.set_cons_zero, List.set_cons_succ]
      refine wpAnyH_done (by kernel_rfl) ?_ _
      refine NoPanic.normal ?_
      go_wp2_with fail
      refine bodyPost_ret (v := .tuple #[.agg #[.slice A bs.length c, .int .i64 (s2.1 : Int), .int .i64 s2.2], .agg #[.int .i64 lo, .slice A6 k c6]]) (by simp [results, Try.results60, go_sem, f0, f1, f2, e0, e1, e2, j0, j1, h0, h1, x1, x2]) rfl ?_
      rw [HIT.out]
      refine ⟨A6, c6, by rw [HLEN.out], ?_, HBF.out.drew⟩
      rw [HLEN.out]
      exact HRWF.out
end

section
open Go.RowKit Plain

/-- Where the document's reading stands: the result's box, the program's. -/
structure RG (w W : World) (rb pb : Nat) (cs : Array Value) : Prop where
  rbk : Blk W rb 26 #[.slice none 0 0, .int .i64 0, .slice none 0 0, .slice none 0 0, .slice none 0 0, .slice none 0 0, .int .i64 0]
  pbk : Blk W pb 26 cs
  bel : Below w.heap.size w W
  lo : w.heap.size ≤ pb
  ne : rb ≠ pb
section
variable {w W W' : World} {rb pb : Nat} {cs : Array Value}
theorem RG.below (h : RG w W rb pb cs) (hb : Below W.heap.size W W') : RG w W' rb pb cs := ⟨h.rbk.below hb h.rbk.lt, h.pbk.below hb h.pbk.lt, h.bel.trans (hb.mono h.bel.size), h.lo, h.ne⟩
theorem RG.fr {g : Nat} (h : RG w W rb pb cs) (hf : Fr (fun i => i = g) W W') (h1 : rb ≠ g) (h2 : pb ≠ g) (h3 : w.heap.size ≤ g) : RG w W' rb pb cs := ⟨hf.blk h.rbk h1, hf.blk h.pbk h2, h.bel.trans (hf.below h.bel.size (fun i hi => by omega)), h.lo, h.ne⟩
theorem RG.alloc (h : RG w W rb pb cs) (o : Obj) : RG w (W.alloc o) rb pb cs := h.below ((Below.refl _ _).alloc (Nat.le_refl _) o)
theorem RG.set (h : RG w W rb pb cs) (i : Nat) (u : Value) : RG w (W.setCell ⟨pb, i, none⟩ u) rb pb (cs.setIfInBounds i u) := by
  have hf := (Fr.refl (fun j => j = pb) W).setCell (p := ⟨pb, i, none⟩) (.inl rfl) u
  exact ⟨hf.blk h.rbk h.ne, h.pbk.set_ i u, h.bel.setCell (p := ⟨pb, i, none⟩) h.lo u, h.lo, h.ne⟩
end
theorem below_alloc {W W' : World} (hb : Below W.heap.size W W') (o : Obj) : Below W.heap.size W (W'.alloc o) := hb.alloc hb.size o
def RefRelL (bs : List Nat) (sx : Sx) (nx c : Nat) (A : Option Addr) (w : World) (rb pb gx : Nat) (A3 A5 A6 A7 : Option Addr) (c3 c5 c6 c7 : Nat) (lf : List FV) (m : Int) (lc lm lh : List Int) (s20 : Value) (wr : World) : Prop :=
  ∃ k : Nat, k ≤ nx ∧ s20 = .int .i64 (k : Int) ∧ ∃ A8 c8, RwL wr w.heap.size (.slice A8 k c8) (iterP (intsP bs) k sx).1 ∧ RG w wr rb pb #[.slice A3 lf.length c3, .int .i64 m, .slice A5 lc.length c5, .slice A6 lm.length c6, .slice A7 lh.length c7, .slice A8 k c8, .int .i64 0] ∧
    Blk wr gx 90 #[.slice A bs.length c, .int .i64 ((iterP (intsP bs) k sx).2.1 : Int), .int .i64 (iterP (intsP bs) k sx).2.2] ∧ RwF wr w.heap.size (.slice A3 lf.length c3) lf ∧ RwI wr w.heap.size (.slice A5 lc.length c5) lc ∧ RwI wr w.heap.size (.slice A6 lm.length c6) lm ∧ RwI wr w.heap.size (.slice A7 lh.length c7) lh
def RefRelF (bs : List Nat) (s1 : Sx) (n c : Nat) (A : Option Addr) (w : World) (rb pb g5 : Nat) (s7 : Value) (wr : World) : Prop :=
  ∃ k : Nat, k ≤ n ∧ s7 = .int .i64 (k : Int) ∧ ∃ A3 c3, RwF wr w.heap.size (.slice A3 k c3) (iterP (funcP bs) k s1).1 ∧ RG w wr rb pb #[.slice A3 k c3, .int .i64 0, .slice none 0 0, .slice none 0 0, .slice none 0 0, .slice none 0 0, .int .i64 0] ∧
    Blk wr g5 90 #[.slice A bs.length c, .int .i64 ((iterP (funcP bs) k s1).2.1 : Int), .int .i64 (iterP (funcP bs) k s1).2.2]

set_option maxHeartbeats 16000000 in
set_option maxRecDepth 100000 in
theorem refRead_any (bs : List Nat) (n0 : Nat) (hbl : bs.length = n0) (hx : ∀ x ∈ bs, x < 256) (w : World) (BB : Nat) (A : Option Addr) (c : Nat) (hr : Reads w BB 1 A n0 (BS bs)) (hB : BB ≤ w.heap.size) (hnc : n0 ≤ c) (hn : n0 ≤ 140737488355328) :
    Calls Try.prog 20 #[.slice A n0 c] w (ReadTold bs w) := by
  subst hbl
  obtain ⟨i0, hi0, hz0, hz1, hz2⟩ := info_parts info_func
  obtain ⟨j0, hj0, hy0, hy1, hy2⟩ := info_parts info_ints
  have hl := (told_list bs c 0 A 0 0 0 (.int .i64 0) BB hx hnc hn (Nat.zero_le _) 16).1
  obtain ⟨n, hn1, hn2, hn3⟩ := ls_nat 16 bs (0, 0)
  have hle := stP_le (goes_ls 16) hx (s := (0, 0)) (Nat.zero_le _)
  obtain ⟨⟨lf, s3⟩, h3⟩ : ∃ q, q = pf bs := ⟨_, rfl⟩
  obtain ⟨⟨m, s4⟩, h4⟩ : ∃ q, q = pm bs := ⟨_, rfl⟩
  obtain ⟨⟨lc, s5⟩, h5⟩ : ∃ q, q = pc bs := ⟨_, rfl⟩
  obtain ⟨⟨lm, s6⟩, h6⟩ : ∃ q, q = ps bs := ⟨_, rfl⟩
  obtain ⟨⟨lh, s7⟩, h7⟩ : ∃ q, q = ph bs := ⟨_, rfl⟩
  obtain ⟨⟨lx, s8⟩, h8⟩ : ∃ q, q = px bs := ⟨_, rfl⟩
  obtain ⟨⟨th, s9⟩, h9⟩ : ∃ q, q = pt bs := ⟨_, rfl⟩
  have hpp : progP bs = ⟨lf, m, lc, lm, lh, lx, th⟩ := by unfold progP; rw [← h3, ← h4, ← h5, ← h6, ← h7, ← h8, ← h9]
  have hre : readE bs = if s9.2 ≠ 0 then s9.2 else if s9.1 < bs.length then 3 else if mayB ⟨lf, m, lc, lm, lh, lx, th⟩ then 0 else 1 := by unfold readE; rw [hpp, ← h9]
  have hfew := prog_few bs
  rw [hpp] at hfew
  have hlp : (lf, s3) = iterP (funcP bs) n (stP (ls 16) bs (0, 0)).2 := by rw [h3]; unfold pf listP; rw [hn1]; rfl
  rw [hn1] at hl
  generalize stP (ls 16) bs (0, 0) = q at *
  obtain ⟨q1, s1⟩ := q
  simp only at hl hlp hn1 hle
  have hfst := (stays_func hx).iter (bs := bs)
  have HST : Hid (∀ k, (iterP (funcP bs) k s1).2.1 ≤ bs.length) := fun k => hfst k s1 hle
  have l3 : s3.1 ≤ bs.length := by have := HST.out n; rw [← hlp] at this; exact this
  have l4 : s4.1 ≤ bs.length := by have := stP_le goes_sh hx (s := s3) l3; have e : (m, s4) = stP sh bs s3 := by rw [h4]; unfold pm; rw [← h3]
                                   rw [← e] at this; exact this
  have l5 : s5.1 ≤ bs.length := by have := stays_ints hx s4 l4; have e : (lc, s5) = intsP bs s4 := by rw [h5]; unfold pc; rw [← h4]
                                   rw [← e] at this; exact this
  have l6 : s6.1 ≤ bs.length := by have := stays_ints hx s5 l5; have e : (lm, s6) = intsP bs s5 := by rw [h6]; unfold ps; rw [← h5]
                                   rw [← e] at this; exact this
  have l7 : s7.1 ≤ bs.length := by have := stays_ints hx s6 l6; have e : (lh, s7) = intsP bs s6 := by rw [h7]; unfold ph; rw [← h6]
                                   rw [← e] at this; exact this
  obtain ⟨nx, hx1, hx2, hx3⟩ := ls_nat 8 bs s7
  have hlex := stP_le (goes_ls 8) hx (s := s7) l7
  have hlx := (told_list bs c s7.1 A s7.2 0 0 (.int .i64 0) BB hx hnc hn l7 8).1
  have hlpx : (lx, s8) = iterP (intsP bs) nx (stP (ls 8) bs s7).2 := by rw [h8]; unfold px; rw [← h7]; unfold listP; rw [hx1]; rfl
  rw [hx1] at hlx
  generalize stP (ls 8) bs s7 = qx at *
  obtain ⟨qx1, sx⟩ := qx
  simp only at hlx hlpx hx1 hlex
  have hxst := (stays_ints hx).iter (bs := bs)
  have HSX : Hid (∀ k, (iterP (intsP bs) k sx).2.1 ≤ bs.length) := fun k => hxst k sx hlex
  have l8 : s8.1 ≤ bs.length := by have := HSX.out nx; rw [← hlpx] at this; exact this
  have C4 : RefT 61 #[.agg #[.slice A bs.length c, .int .i64 (s3.1 : Int), .int .i64 s3.2]] A bs.length c s4.1 s4.2 (.int .i64 m) BB bs := by
    have h := (told_short bs c s3.1 A s3.2 0 0 (.int .i64 0) BB hx hnc hn l3).1
    rw [show stP sh bs (s3.1, s3.2) = (m, s4) from (by rw [h4]; unfold pm; rw [← h3])] at h
    exact h
  have C5 : ∀ W : World, Reads W BB 1 A bs.length (BS bs) → BB ≤ W.heap.size → Calls Try.prog 62 #[.agg #[.slice A bs.length c, .int .i64 (s4.1 : Int), .int .i64 s4.2]] W fun e w' => ∃ A' c', e = .returned (.tuple #[.agg #[.slice A bs.length c, .int .i64 (s5.1 : Int), .int .i64 s5.2], .slice A' lc.length c']) ∧ RwI w' W.heap.size (.slice A' lc.length c') lc ∧ Below W.heap.size W w' := fun W hr hB => by
    have h := refNumbers bs c A s4 W BB hr hB hx hnc hn l4
    rw [show intsP bs s4 = (lc, s5) from (by rw [h5]; unfold pc; rw [← h4])] at h
    exact h
  have C6 : ∀ W : World, Reads W BB 1 A bs.length (BS bs) → BB ≤ W.heap.size → Calls Try.prog 62 #[.agg #[.slice A bs.length c, .int .i64 (s5.1 : Int), .int .i64 s5.2]] W fun e w' => ∃ A' c', e = .returned (.tuple #[.agg #[.slice A bs.length c, .int .i64 (s6.1 : Int), .int .i64 s6.2], .slice A' lm.length c']) ∧ RwI w' W.heap.size (.slice A' lm.length c') lm ∧ Below W.heap.size W w' := fun W hr hB => by
    have h := refNumbers bs c A s5 W BB hr hB hx hnc hn l5
    rw [show intsP bs s5 = (lm, s6) from (by rw [h6]; unfold ps; rw [← h5])] at h
    exact h
  have C7 : ∀ W : World, Reads W BB 1 A bs.length (BS bs) → BB ≤ W.heap.size → Calls Try.prog 62 #[.agg #[.slice A bs.length c, .int .i64 (s6.1 : Int), .int .i64 s6.2]] W fun e w' => ∃ A' c', e = .returned (.tuple #[.agg #[.slice A bs.length c, .int .i64 (s7.1 : Int), .int .i64 s7.2], .slice A' lh.length c']) ∧ RwI w' W.heap.size (.slice A' lh.length c') lh ∧ Below W.heap.size W w' := fun W hr hB => by
    have h := refNumbers bs c A s6 W BB hr hB hx hnc hn l6
    rw [show intsP bs s6 = (lh, s7) from (by rw [h7]; unfold ph; rw [← h6])] at h
    exact h
  have C9 : RefT 61 #[.agg #[.slice A bs.length c, .int .i64 (s8.1 : Int), .int .i64 s8.2]] A bs.length c s9.1 s9.2 (.int .i64 th) BB bs := by
    have h := (told_short bs c s8.1 A s8.2 0 0 (.int .i64 0) BB hx hnc hn l8).1
    rw [show stP sh bs (s8.1, s8.2) = (th, s9) from (by rw [h9]; unfold pt; rw [← h8])] at h
    exact h
  have CF : ∀ (s' : Sx) (W : World), s'.1 ≤ bs.length → Reads W BB 1 A bs.length (BS bs) → BB ≤ W.heap.size → _ := fun s' W hs hr hB => refFunction bs c A s' W BB hr hB hx hnc hn hs
  have CX : ∀ (s' : Sx) (W : World), s'.1 ≤ bs.length → Reads W BB 1 A bs.length (BS bs) → BB ≤ W.heap.size → _ := fun s' W hs hr hB => refNumbers bs c A s' W BB hr hB hx hnc hn hs
  have D4 := Lib.hid C4; have D5 := Lib.hid C5; have D6 := Lib.hid C6; have D7 := Lib.hid C7; have D9 := Lib.hid C9; have DF := Lib.hid CF; have DX := Lib.hid CX; have DL := Lib.hid hl; have DLX := Lib.hid hlx
  have HR := Lib.hid hr; have HPP := Lib.hid hpp; have HRE := Lib.hid hre; have HFEW := Lib.hid hfew; have HLP := Lib.hid hlp; have HLPX := Lib.hid hlpx
  clear C4 C5 C6 C7 C9 CF CX hl hlx hr hpp hre hfew hlp hlpx h3 h4 h5 h6 h7 h8 h9 hx hfst hxst l3 l4 l5 l6 l7 l8 hle hlex hn1 hx1
  go_enter Try.func20, Try.ntmps20
  obtain ⟨T1, T2, T3⟩ := two w 26 26 #[.slice none 0 0, .int .i64 0, .slice none 0 0, .slice none 0 0, .slice none 0 0, .slice none 0 0, .int .i64 0] #[.slice none 0 0, .int .i64 0, .slice none 0 0, .slice none 0 0, .slice none 0 0, .slice none 0 0, .int .i64 0]
  obtain ⟨W, hW⟩ : ∃ X, X = (w.alloc (.cells #[.slice none 0 0, .int .i64 0, .slice none 0 0, .slice none 0 0, .slice none 0 0, .slice none 0 0, .int .i64 0] 26)).alloc (.cells #[.slice none 0 0, .int .i64 0, .slice none 0 0, .slice none 0 0, .slice none 0 0, .slice none 0 0, .int .i64 0] 26) := ⟨_, rfl⟩
  rw [← hW] at T1 T2 T3
  have HW := Lib.hid hW.symm
  have hG : RG w W w.heap.size (w.heap.size + 1) #[.slice none 0 0, .int .i64 0, .slice none 0 0, .slice none 0 0, .slice none 0 0, .slice none 0 0, .int .i64 0] := ⟨T1, T2, T3, by omega, by omega⟩
  have G0 := Lib.hid hG
  have zG := hG.bel.size
  clear hG hW T1 T2 T3
  go_upto_region 2 with fail
  rw [HW.out]
  go_wp2_with fail
  refine (DL.out W (HR.out.below (G0.out.bel.mono hB)) (by omega)).mono ?_
  rintro e w1 ⟨rfl, hb1⟩
  have hG1 := (G0.out.below hb1).alloc (.cells #[.slice A bs.length c, .int .i64 (s1.1 : Int), .int .i64 s1.2] 90)
  have z1 := hb1.size
  have G1 := Lib.hid hG1
  have B5 := Lib.hid (Blk.new w1 90 #[.slice A bs.length c, .int .i64 (s1.1 : Int), .int .i64 s1.2])
  clear hb1 hG1
  generalize hg5 : w1.heap.size = g5 at B5
  have HG5 := Lib.hid hg5
  have zg5 : w.heap.size + 1 < g5 := by have := G0.out.pbk.lt; omega
  clear hg5
  go_wp2_with fail
  rw [HG5.out]
  go_loopw [7] (fun s7 wr => RefRelF bs s1 n c A w w.heap.size (w.heap.size + 1) g5 s7 wr) (fun s7 _ => n - (intOf s7).toNat)
  case atStart => exact ⟨0, by omega, rfl, none, 0, ⟨[], rfl, World.ownsRow_nil _ _ _ _, by simp⟩, G1.out, B5.out⟩
  case round =>
    obtain ⟨k, hk, rfl, A3, c3, hrow, hg, hb5⟩ := hrel
    have hlen := iterP_length (funcP bs) k s1
    have hle := HST.out k
    by_cases hlt : k < n
    · have hnx : iterP (funcP bs) (k + 1) s1 = ((iterP (funcP bs) k s1).1 ++ [(funcP bs (iterP (funcP bs) k s1).2).1], (funcP bs (iterP (funcP bs) k s1).2).2) := rfl
      generalize iterP (funcP bs) k s1 = it at hrow hb5 hlen hnx hle
      obtain ⟨l, s2⟩ := it
      simp only at hrow hb5 hlen hnx hle
      have zr := hg.bel.size
      have hcall := DF.out s2 wr hle (HR.out.below (hg.bel.mono hB)) (by omega)
      generalize funcP bs s2 = qf at hcall hnx
      obtain ⟨⟨flo, code⟩, s0⟩ := qf
      simp only at hcall hnx
      obtain ⟨ts, hts, hrow, hall⟩ := hrow
      rw [hlen] at hrow
      have htl : ts.length = k := by rw [← hlen, ← hts, List.length_map]
      have d0 := (hb5.cell 0).trans rfl
      have d1 := (hb5.cell 1).trans rfl
      have d2 := (hb5.cell 2).trans rfl
      have HROW := Lib.hid hrow; have HALL := Lib.hid hall; have HTS := Lib.hid hts; have HG := Lib.hid hg; have HB5 := Lib.hid hb5; have HNX := Lib.hid hnx; have HLEN := Lib.hid hlen; have HCALL := Lib.hid hcall; have HTL := Lib.hid htl
      clear hrow hall hts hg hb5 hnx hlen hcall hle htl
      go_wp2_with fail
      refine HCALL.out.mono ?_
      rintro en wq ⟨A', c', rfl, ho, hbq⟩
      have zq := hbq.size
      have q5 := HB5.out.below hbq HB5.out.lt
      have zq5 := q5.lt
      have e0 := q5.frozen 0
      have e1 := q5.frozen 1
      have e2 := q5.frozen 2
      have f0 := (q5.cell 0).trans rfl
      have f1 := (q5.cell 1).trans rfl
      have f2 := (q5.cell 2).trans rfl
      have HO := Lib.hid ho; have HBQ := Lib.hid hbq; have Q5 := Lib.hid q5
      clear ho hbq q5 d0 d1 d2
      obtain ⟨W8, hW8⟩ : ∃ X, X = ((((wq.setCell ⟨g5, 0, none⟩ (.slice A bs.length c)).setCell ⟨g5, 1, none⟩ (.int .i64 (s0.1 : Int))).setCell ⟨g5, 2, none⟩ (.int .i64 s0.2)).alloc (.cells #[.slice A bs.length c, .int .i64 (s0.1 : Int), .int .i64 s0.2] 90)).alloc (.cells #[.int .i64 flo, .slice A' code.length c'] 45) := ⟨_, rfl⟩
      have hf8 : Fr (fun i => i = g5) wq W8 := by rw [hW8]; exact ((fr3 _ _ _).alloc _).alloc _
      have h85 : Blk W8 g5 90 #[.slice A bs.length c, .int .i64 (s0.1 : Int), .int .i64 s0.2] := by rw [hW8]; exact ((blk3 Q5.out _ _ _).alloc _).alloc _
      have h8g := (HG.out.below HBQ.out).fr hf8 (by omega) (by omega) (by omega)
      have h89 : Blk W8 (wq.heap.size + 1) 45 #[.int .i64 flo, .slice A' code.length c'] := by rw [hW8]; simpa using Blk.new ((((wq.setCell ⟨g5, 0, none⟩ (.slice A bs.length c)).setCell ⟨g5, 1, none⟩ (.int .i64 (s0.1 : Int))).setCell ⟨g5, 2, none⟩ (.int .i64 s0.2)).alloc (.cells #[.slice A bs.length c, .int .i64 (s0.1 : Int), .int .i64 s0.2] 90)) 45 #[.int .i64 flo, .slice A' code.length c']
      have h8r : W8.ownsRow w.heap.size 45 2 (.slice A3 k c3) k (FS ts) := own_fr1 (own_bel HROW.out HBQ.out) Q5.out (by decide) hf8
      have h8a : ∀ t ∈ ts, W8.ownsRow w.heap.size 47 2 t.val t.f.code.length (CS t.f.code) := fun t ht => own_fr1 (own_bel (HALL.out t ht) HBQ.out) Q5.out (by decide) hf8
      have h8o : W8.ownsRow w.heap.size 47 2 (.slice A' code.length c') code.length (CS code) := own_fr1 (own_mono HO.out zr) Q5.out (by decide) hf8
      have p0 := (h8g.pbk.cell 0).trans rfl
      have p1 := h8g.pbk.lt
      have p2 := (h89.cell 0).trans rfl
      have p3 := (h89.cell 1).trans rfl
      have p4 := h89.lt
      have z8 := h8g.bel.size
      have HW8 := Lib.hid hW8.symm; have H85 := Lib.hid h85; have H8G := Lib.hid h8g; have H8R := Lib.hid h8r; have H8A := Lib.hid h8a; have H8O := Lib.hid h8o
      clear hf8 h85 h8g h89 h8r h8a h8o hW8
      go_upto_region 8 with fail
      rw [HW8.out]
      clear e0 e1 e2 f0 f1 f2
      go_wp2_with (at_builtin; go_must (refine wpList_append_any _ rfl (.tmp 44) (.tmp 46) _ rfl w.heap.size 45 i0 _ 2 32 Try.underlying22 hi0 hz0 hz1 hz2 rfl (by decide) (.slice A3 k c3) k (FS ts) rfl (H8R.out.alloc _) (W8.heap.size + 1) (some ⟨W8.heap.size, 0, none⟩) 1 1 [.int .i64 flo, .slice A' code.length c'] rfl (reads_new2 W8 (.int .i64 flo) (.slice A' code.length c') _) (by intro u hu; simp at hu; rcases hu with rfl | rfl <;> rfl) ?c1 ?c2 ?c3 ?k))
      case c1 => unfold maxLen; omega
      case c2 => omega
      case c3 => simp; omega
      case k =>
      intro v3 w3 hown3 hg3 hat3
      obtain ⟨A9, c9, rfl, _, _⟩ := own_slice hown3
      have hfg := Fr.of_grown hg3
      have r5 := (H85.out.alloc (.cells #[.int .i64 flo, .slice A' code.length c'] 45)).grown hg3 (fun e => own_blk_ne H8R.out H85.out (by decide) e.symm)
      have rg := H8G.out.alloc (.cells #[.int .i64 flo, .slice A' code.length c'] 45)
      have rG : RG w w3 w.heap.size (w.heap.size + 1) #[.slice A3 k c3, .int .i64 0, .slice none 0 0, .slice none 0 0, .slice none 0 0, .slice none 0 0, .int .i64 0] := ⟨rg.rbk.grown hg3 (fun e => own_blk_ne H8R.out H8G.out.rbk (by decide) e.symm), rg.pbk.grown hg3 (fun e => own_blk_ne H8R.out H8G.out.pbk (by decide) e.symm), rg.bel.grown hg3 (by simp; omega) (fun r hr => (H8R.out.lt r hr).1), rg.lo, rg.ne⟩
      have rF : RwF w3 w.heap.size (.slice A9 (k + 1) c9) (l ++ [⟨flo, code⟩]) := by
        refine ⟨ts ++ [⟨⟨flo, code⟩, A', c'⟩], by rw [List.map_append, HTS.out]; rfl, by simpa [FS, flat2, TF.cells, TF.val, HLEN.out] using hown3, fun t ht => ?_⟩
        rcases List.mem_append.1 ht with ht | ht
        · exact hfg.own ((H8A.out t ht).alloc _) (fun i hi hs => own_ne (H8A.out t ht) H8R.out (by decide) i hi hs)
        · simp at ht
          subst ht
          exact hfg.own (H8O.out.alloc _) (fun i hi hs => own_ne H8O.out H8R.out (by decide) i hi hs)
      have t0 := (rG.pbk.cell 0).trans rfl
      have t1 := rG.pbk.frozen 0
      have t2 := rG.pbk.lt
      have S5 : Hid (Blk (w3.setCell ⟨w.heap.size + 1, 0, none⟩ (.slice A9 (k + 1) c9)) g5 90 #[.slice A bs.length c, .int .i64 (s0.1 : Int), .int .i64 s0.2]) := r5.far (p := ⟨w.heap.size + 1, 0, none⟩) (show g5 ≠ w.heap.size + 1 by omega) _
      have SG := Lib.hid (rG.set 0 (.slice A9 (k + 1) c9)); have SF := Lib.hid (rF.fr1 rG.pbk (by decide) (by decide) (fr_set 0 (.slice A9 (k + 1) c9)))
      clear hown3 hg3 hat3 hfg r5 rg rG rF p0 p1 p2 p3 p4
      go_wp2_with fail
      exact ⟨⟨k + 1, by omega, by go_num, A9, c9, by rw [HNX.out]; exact SF.out, SG.out, by rw [HNX.out]; exact S5.out⟩, by simp [intOf]; omega⟩
    · obtain rfl : k = n := by omega
      rw [← HLP.out] at hrow hb5 hlen
      simp only at hrow hb5 hlen
      subst hlen
      have Q3 := Lib.hid hrow; have GK3 := Lib.hid hg; have BK3 := Lib.hid hb5
      clear hrow hg hb5 hle HLP HST G0 G1 B5 DF DL
      have d0 := (BK3.out.cell 0).trans rfl
      have d1 := (BK3.out.cell 1).trans rfl
      have d2 := (BK3.out.cell 2).trans rfl
      have zz4 := GK3.out.bel.size
      go_wp2_with fail
      refine (D4.out wr (HR.out.below (GK3.out.bel.mono hB)) (by omega)).mono ?_
      rintro e V4 ⟨rfl, hb⟩
      have hg' := GK3.out.below hb
      have y0 : V4.cell? ⟨w.heap.size + 1, 1, none⟩ = some (.int .i64 0) := (hg'.pbk.cell 1).trans rfl
      have y1 := hg'.pbk.frozen 1
      have y2 := hg'.pbk.lt
      obtain ⟨U4, hU4⟩ : ∃ X, X = (V4.setCell ⟨w.heap.size + 1, 1, none⟩ (.int .i64 m)).alloc (.cells #[.slice A bs.length c, .int .i64 (s4.1 : Int), .int .i64 s4.2] 90) := ⟨_, rfl⟩
      have hgn : RG w U4 w.heap.size (w.heap.size + 1) #[.slice A3 lf.length c3, .int .i64 m, .slice none 0 0, .slice none 0 0, .slice none 0 0, .slice none 0 0, .int .i64 0] := by rw [hU4]; exact (hg'.set 1 (.int .i64 m)).alloc _
      have hbn : Blk U4 V4.heap.size 90 #[.slice A bs.length c, .int .i64 (s4.1 : Int), .int .i64 s4.2] := by rw [hU4]; simpa using Blk.new (V4.setCell ⟨w.heap.size + 1, 1, none⟩ (.int .i64 m)) 90 #[.slice A bs.length c, .int .i64 (s4.1 : Int), .int .i64 s4.2]
      have hal : ∀ X : World, Below X.heap.size X (X.alloc (.cells #[.slice A bs.length c, .int .i64 (s4.1 : Int), .int .i64 s4.2] 90)) := fun X => (Below.refl _ _).alloc (Nat.le_refl _) _
      have gQ3 : RwF U4 w.heap.size (.slice A3 lf.length c3) lf := by rw [hU4]; exact ((Q3.out.below hb).fr1 hg'.pbk (by decide) (by decide) (fr_set 1 (.int .i64 m))).below (hal _)
      clear Q3
      have Q3 := Lib.hid gQ3
      clear gQ3
      have GK4 := Lib.hid hgn; have BK4 := Lib.hid hbn
      have HU := Lib.hid hU4.symm
      clear hgn hbn hal hg' hb hU4 d0 d1 d2 GK3 BK3 zz4
      go_upto_region 11 with fail
      rw [HU.out]
      clear y0 y1 y2 HU
      have d0 := (BK4.out.cell 0).trans rfl
      have d1 := (BK4.out.cell 1).trans rfl
      have d2 := (BK4.out.cell 2).trans rfl
      have zz5 := GK4.out.bel.size
      go_wp2_with fail
      refine (D5.out U4 (HR.out.below (GK4.out.bel.mono hB)) (by omega)).mono ?_
      rintro e V5 ⟨A5, c5, rfl, hrw, hb⟩
      have hg' := GK4.out.below hb
      have y0 : V5.cell? ⟨w.heap.size + 1, 2, none⟩ = some (.slice none 0 0) := (hg'.pbk.cell 2).trans rfl
      have y1 := hg'.pbk.frozen 2
      have y2 := hg'.pbk.lt
      obtain ⟨U5, hU5⟩ : ∃ X, X = (V5.setCell ⟨w.heap.size + 1, 2, none⟩ (.slice A5 lc.length c5)).alloc (.cells #[.slice A bs.length c, .int .i64 (s5.1 : Int), .int .i64 s5.2] 90) := ⟨_, rfl⟩
      have hgn : RG w U5 w.heap.size (w.heap.size + 1) #[.slice A3 lf.length c3, .int .i64 m, .slice A5 lc.length c5, .slice none 0 0, .slice none 0 0, .slice none 0 0, .int .i64 0] := by rw [hU5]; exact (hg'.set 2 (.slice A5 lc.length c5)).alloc _
      have hbn : Blk U5 V5.heap.size 90 #[.slice A bs.length c, .int .i64 (s5.1 : Int), .int .i64 s5.2] := by rw [hU5]; simpa using Blk.new (V5.setCell ⟨w.heap.size + 1, 2, none⟩ (.slice A5 lc.length c5)) 90 #[.slice A bs.length c, .int .i64 (s5.1 : Int), .int .i64 s5.2]
      have hal : ∀ X : World, Below X.heap.size X (X.alloc (.cells #[.slice A bs.length c, .int .i64 (s5.1 : Int), .int .i64 s5.2] 90)) := fun X => (Below.refl _ _).alloc (Nat.le_refl _) _
      have gQ3 : RwF U5 w.heap.size (.slice A3 lf.length c3) lf := by rw [hU5]; exact ((Q3.out.below hb).fr1 hg'.pbk (by decide) (by decide) (fr_set 2 (.slice A5 lc.length c5))).below (hal _)
      clear Q3
      have Q3 := Lib.hid gQ3
      clear gQ3
      have gQ : RwI U5 w.heap.size (.slice A5 lc.length c5) lc := by rw [hU5]; exact ((hrw.lower zz5).fr1 hg'.pbk (by decide) (fr_set 2 (.slice A5 lc.length c5))).below (hal _)
      have Q5 := Lib.hid gQ
      clear gQ hrw
      have GK5 := Lib.hid hgn; have BK5 := Lib.hid hbn
      have HU := Lib.hid hU5.symm
      clear hgn hbn hal hg' hb hU5 d0 d1 d2 GK4 BK4 zz5
      go_upto_region 13 with fail
      rw [HU.out]
      clear y0 y1 y2 HU
      have d0 := (BK5.out.cell 0).trans rfl
      have d1 := (BK5.out.cell 1).trans rfl
      have d2 := (BK5.out.cell 2).trans rfl
      have zz6 := GK5.out.bel.size
      go_wp2_with fail
      refine (D6.out U5 (HR.out.below (GK5.out.bel.mono hB)) (by omega)).mono ?_
      rintro e V6 ⟨A6, c6, rfl, hrw, hb⟩
      have hg' := GK5.out.below hb
      have y0 : V6.cell? ⟨w.heap.size + 1, 3, none⟩ = some (.slice none 0 0) := (hg'.pbk.cell 3).trans rfl
      have y1 := hg'.pbk.frozen 3
      have y2 := hg'.pbk.lt
      obtain ⟨U6, hU6⟩ : ∃ X, X = (V6.setCell ⟨w.heap.size + 1, 3, none⟩ (.slice A6 lm.length c6)).alloc (.cells #[.slice A bs.length c, .int .i64 (s6.1 : Int), .int .i64 s6.2] 90) := ⟨_, rfl⟩
      have hgn : RG w U6 w.heap.size (w.heap.size + 1) #[.slice A3 lf.length c3, .int .i64 m, .slice A5 lc.length c5, .slice A6 lm.length c6, .slice none 0 0, .slice none 0 0, .int .i64 0] := by rw [hU6]; exact (hg'.set 3 (.slice A6 lm.length c6)).alloc _
      have hbn : Blk U6 V6.heap.size 90 #[.slice A bs.length c, .int .i64 (s6.1 : Int), .int .i64 s6.2] := by rw [hU6]; simpa using Blk.new (V6.setCell ⟨w.heap.size + 1, 3, none⟩ (.slice A6 lm.length c6)) 90 #[.slice A bs.length c, .int .i64 (s6.1 : Int), .int .i64 s6.2]
      have hal : ∀ X : World, Below X.heap.size X (X.alloc (.cells #[.slice A bs.length c, .int .i64 (s6.1 : Int), .int .i64 s6.2] 90)) := fun X => (Below.refl _ _).alloc (Nat.le_refl _) _
      have gQ3 : RwF U6 w.heap.size (.slice A3 lf.length c3) lf := by rw [hU6]; exact ((Q3.out.below hb).fr1 hg'.pbk (by decide) (by decide) (fr_set 3 (.slice A6 lm.length c6))).below (hal _)
      clear Q3
      have Q3 := Lib.hid gQ3
      clear gQ3
      have gQ5 : RwI U6 w.heap.size (.slice A5 lc.length c5) lc := by rw [hU6]; exact ((Q5.out.below hb).fr1 hg'.pbk (by decide) (fr_set 3 (.slice A6 lm.length c6))).below (hal _)
      clear Q5
      have Q5 := Lib.hid gQ5
      clear gQ5
      have gQ : RwI U6 w.heap.size (.slice A6 lm.length c6) lm := by rw [hU6]; exact ((hrw.lower zz6).fr1 hg'.pbk (by decide) (fr_set 3 (.slice A6 lm.length c6))).below (hal _)
      have Q6 := Lib.hid gQ
      clear gQ hrw
      have GK6 := Lib.hid hgn; have BK6 := Lib.hid hbn
      have HU := Lib.hid hU6.symm
      clear hgn hbn hal hg' hb hU6 d0 d1 d2 GK5 BK5 zz6
      go_upto_region 15 with fail
      rw [HU.out]
      clear y0 y1 y2 HU
      have d0 := (BK6.out.cell 0).trans rfl
      have d1 := (BK6.out.cell 1).trans rfl
      have d2 := (BK6.out.cell 2).trans rfl
      have zz7 := GK6.out.bel.size
      go_wp2_with fail
      refine (D7.out U6 (HR.out.below (GK6.out.bel.mono hB)) (by omega)).mono ?_
      rintro e V7 ⟨A7, c7, rfl, hrw, hb⟩
      have hg' := GK6.out.below hb
      have y0 : V7.cell? ⟨w.heap.size + 1, 4, none⟩ = some (.slice none 0 0) := (hg'.pbk.cell 4).trans rfl
      have y1 := hg'.pbk.frozen 4
      have y2 := hg'.pbk.lt
      obtain ⟨U7, hU7⟩ : ∃ X, X = (V7.setCell ⟨w.heap.size + 1, 4, none⟩ (.slice A7 lh.length c7)).alloc (.cells #[.slice A bs.length c, .int .i64 (s7.1 : Int), .int .i64 s7.2] 90) := ⟨_, rfl⟩
      have hgn : RG w U7 w.heap.size (w.heap.size + 1) #[.slice A3 lf.length c3, .int .i64 m, .slice A5 lc.length c5, .slice A6 lm.length c6, .slice A7 lh.length c7, .slice none 0 0, .int .i64 0] := by rw [hU7]; exact (hg'.set 4 (.slice A7 lh.length c7)).alloc _
      have hbn : Blk U7 V7.heap.size 90 #[.slice A bs.length c, .int .i64 (s7.1 : Int), .int .i64 s7.2] := by rw [hU7]; simpa using Blk.new (V7.setCell ⟨w.heap.size + 1, 4, none⟩ (.slice A7 lh.length c7)) 90 #[.slice A bs.length c, .int .i64 (s7.1 : Int), .int .i64 s7.2]
      have hal : ∀ X : World, Below X.heap.size X (X.alloc (.cells #[.slice A bs.length c, .int .i64 (s7.1 : Int), .int .i64 s7.2] 90)) := fun X => (Below.refl _ _).alloc (Nat.le_refl _) _
      have gQ3 : RwF U7 w.heap.size (.slice A3 lf.length c3) lf := by rw [hU7]; exact ((Q3.out.below hb).fr1 hg'.pbk (by decide) (by decide) (fr_set 4 (.slice A7 lh.length c7))).below (hal _)
      clear Q3
      have Q3 := Lib.hid gQ3
      clear gQ3
      have gQ5 : RwI U7 w.heap.size (.slice A5 lc.length c5) lc := by rw [hU7]; exact ((Q5.out.below hb).fr1 hg'.pbk (by decide) (fr_set 4 (.slice A7 lh.length c7))).below (hal _)
      clear Q5
      have Q5 := Lib.hid gQ5
      clear gQ5
      have gQ6 : RwI U7 w.heap.size (.slice A6 lm.length c6) lm := by rw [hU7]; exact ((Q6.out.below hb).fr1 hg'.pbk (by decide) (fr_set 4 (.slice A7 lh.length c7))).below (hal _)
      clear Q6
      have Q6 := Lib.hid gQ6
      clear gQ6
      have gQ : RwI U7 w.heap.size (.slice A7 lh.length c7) lh := by rw [hU7]; exact ((hrw.lower zz7).fr1 hg'.pbk (by decide) (fr_set 4 (.slice A7 lh.length c7))).below (hal _)
      have Q7 := Lib.hid gQ
      clear gQ hrw
      have GK7 := Lib.hid hgn; have BK7 := Lib.hid hbn
      have HU := Lib.hid hU7.symm
      clear hgn hbn hal hg' hb hU7 d0 d1 d2 GK6 BK6 zz7
      go_upto_region 17 with fail
      rw [HU.out]
      clear y0 y1 y2 HU
      have d0 := (BK7.out.cell 0).trans rfl
      have d1 := (BK7.out.cell 1).trans rfl
      have d2 := (BK7.out.cell 2).trans rfl
      have zz := GK7.out.bel.size
      go_wp2_with fail
      refine (DLX.out U7 (HR.out.below (GK7.out.bel.mono hB)) (by omega)).mono ?_
      rintro e VX ⟨rfl, hb⟩
      have hgx := (GK7.out.below hb).alloc (.cells #[.slice A bs.length c, .int .i64 (sx.1 : Int), .int .i64 sx.2] 90)
      have hal := (Below.refl VX.heap.size VX).alloc (Nat.le_refl _) (.cells #[.slice A bs.length c, .int .i64 (sx.1 : Int), .int .i64 sx.2] 90)
      have gQ3 := (Q3.out.below hb).below hal
      clear Q3
      have Q3 := Lib.hid gQ3
      clear gQ3
      have gQ5 := (Q5.out.below hb).below hal
      clear Q5
      have Q5 := Lib.hid gQ5
      clear gQ5
      have gQ6 := (Q6.out.below hb).below hal
      clear Q6
      have Q6 := Lib.hid gQ6
      clear gQ6
      have gQ7 := (Q7.out.below hb).below hal
      clear Q7
      have Q7 := Lib.hid gQ7
      clear gQ7
      have GX := Lib.hid hgx
      have BX := Lib.hid (Blk.new VX 90 #[.slice A bs.length c, .int .i64 (sx.1 : Int), .int .i64 sx.2])
      have zx : w.heap.size + 1 < VX.heap.size := (GK7.out.below hb).pbk.lt
      clear hgx hal hb d0 d1 d2 GK7 BK7 zz
      generalize hgg : VX.heap.size = gx at BX zx
      have HGX := Lib.hid hgg
      clear hgg
      go_wp2_with fail
      rw [HGX.out]
      clear HGX
      go_loopw [20] (fun s20 wr => RefRelL bs sx nx c A w w.heap.size (w.heap.size + 1) gx A3 A5 A6 A7 c3 c5 c6 c7 lf m lc lm lh s20 wr) (fun s20 _ => nx - (intOf s20).toNat)
      case atStart => exact ⟨0, by omega, rfl, none, 0, ⟨[], rfl, World.ownsRow_nil _ _ _ _, by simp⟩, GX.out, BX.out, Q3.out, Q5.out, Q6.out, Q7.out⟩
      case round =>
        clear GX BX Q3 Q5 Q6 Q7
        obtain ⟨wv, rfl⟩ : ∃ x, x = wr := ⟨_, rfl⟩
        obtain ⟨k, hk, rfl, A8, c8, hrow, hg, hb5, q0, q1, q2, q3⟩ := hrel
        have hlen := iterP_length (intsP bs) k sx
        have hle := HSX.out k
        by_cases hlt2 : k < nx
        · have hnx : iterP (intsP bs) (k + 1) sx = ((iterP (intsP bs) k sx).1 ++ [(intsP bs (iterP (intsP bs) k sx).2).1], (intsP bs (iterP (intsP bs) k sx).2).2) := rfl
          generalize iterP (intsP bs) k sx = it at hrow hb5 hlen hnx hle
          obtain ⟨l, s2⟩ := it
          simp only at hrow hb5 hlen hnx hle
          have zr := hg.bel.size
          have hcall := DX.out s2 wv hle (HR.out.below (hg.bel.mono hB)) (by omega)
          generalize intsP bs s2 = qf at hcall hnx
          obtain ⟨xs, s0⟩ := qf
          simp only at hcall hnx
          obtain ⟨ts, hts, hrow, hall⟩ := hrow
          rw [hlen] at hrow
          have d0 := (hb5.cell 0).trans rfl
          have d1 := (hb5.cell 1).trans rfl
          have d2 := (hb5.cell 2).trans rfl
          have HROW := Lib.hid hrow; have HALL := Lib.hid hall; have HTS := Lib.hid hts; have HG := Lib.hid hg; have HB5 := Lib.hid hb5; have HNX := Lib.hid hnx; have HLEN := Lib.hid hlen; have HCALL := Lib.hid hcall
          have P0 := Lib.hid q0; have P1 := Lib.hid q1; have P2 := Lib.hid q2; have P3 := Lib.hid q3
          clear hrow hall hts hg hb5 hnx hlen hcall hle q0 q1 q2 q3
          go_wp2_with fail
          refine HCALL.out.mono ?_
          rintro en wq ⟨A', c', rfl, ho, hbq⟩
          have zq := hbq.size
          have q5 := HB5.out.below hbq HB5.out.lt
          have zq5 := q5.lt
          have e0 := q5.frozen 0
          have e1 := q5.frozen 1
          have e2 := q5.frozen 2
          have f0 := (q5.cell 0).trans rfl
          have f1 := (q5.cell 1).trans rfl
          have f2 := (q5.cell 2).trans rfl
          have HO := Lib.hid ho; have HBQ := Lib.hid hbq; have Q5 := Lib.hid q5
          clear ho hbq q5 d0 d1 d2
          obtain ⟨W8, hW8⟩ : ∃ X, X = (((wq.setCell ⟨gx, 0, none⟩ (.slice A bs.length c)).setCell ⟨gx, 1, none⟩ (.int .i64 (s0.1 : Int))).setCell ⟨gx, 2, none⟩ (.int .i64 s0.2)).alloc (.cells #[.slice A bs.length c, .int .i64 (s0.1 : Int), .int .i64 s0.2] 90) := ⟨_, rfl⟩
          have hf8 : Fr (fun i => i = gx) wq W8 := by rw [hW8]; exact (fr3 _ _ _).alloc _
          have h85 : Blk W8 gx 90 #[.slice A bs.length c, .int .i64 (s0.1 : Int), .int .i64 s0.2] := by rw [hW8]; exact (blk3 Q5.out _ _ _).alloc _
          have h8g := (HG.out.below HBQ.out).fr hf8 (by omega) (by omega) (by omega)
          have h8r : W8.ownsRow w.heap.size 23 1 (.slice A8 k c8) k (LS ts) := own_fr1 (own_bel HROW.out HBQ.out) Q5.out (by decide) hf8
          have h8a : ∀ t ∈ ts, W8.ownsRow w.heap.size 3 1 t.val t.l.length (IS t.l) := fun t ht => own_fr1 (own_bel (HALL.out t ht) HBQ.out) Q5.out (by decide) hf8
          have h8o : W8.ownsRow w.heap.size 3 1 (.slice A' xs.length c') xs.length (IS xs) := own_fr1 (own_mono HO.out zr) Q5.out (by decide) hf8
          have P8 := Lib.hid ((P0.out.below HBQ.out).fr1 Q5.out (by decide) (by decide) hf8); have P9 := Lib.hid ((P1.out.below HBQ.out).fr1 Q5.out (by decide) hf8); have P10 := Lib.hid ((P2.out.below HBQ.out).fr1 Q5.out (by decide) hf8); have P11 := Lib.hid ((P3.out.below HBQ.out).fr1 Q5.out (by decide) hf8)
          have p0 := (h8g.pbk.cell 5).trans rfl
          have p1 := h8g.pbk.lt
          have z8 := h8g.bel.size
          have HW8 := Lib.hid hW8.symm; have H85 := Lib.hid h85; have H8G := Lib.hid h8g; have H8R := Lib.hid h8r; have H8A := Lib.hid h8a; have H8O := Lib.hid h8o
          clear hf8 h85 h8g h8r h8a h8o hW8 P0 P1 P2 P3
          go_upto_region 23 with fail
          rw [HW8.out]
          clear e0 e1 e2 f0 f1 f2
          go_wp2_with (at_builtin; go_must (refine wpList_append_any _ rfl (.tmp 94) (.tmp 96) _ rfl w.heap.size 23 j0 _ 1 24 Try.underlying24 hj0 hy0 hy1 hy2 rfl (by decide) (.slice A8 k c8) k (LS ts) rfl (H8R.out.alloc _) (W8.heap.size + 1) (some ⟨W8.heap.size, 0, none⟩) 1 1 [.slice A' xs.length c'] rfl (reads_new W8 (.slice A' xs.length c') _) (by intro u hu; simp at hu; subst hu; rfl) ?c1 ?c2 ?c3 ?k))
          case c1 => unfold maxLen; omega
          case c2 => omega
          case c3 => simp; omega
          case k =>
          intro v3 w3 hown3 hg3 hat3
          obtain ⟨A9, c9, rfl, _, _⟩ := own_slice hown3
          have hfg := Fr.of_grown hg3
          have hal := (Below.refl W8.heap.size W8).alloc (Nat.le_refl _) (.cells #[.slice A' xs.length c'] 23)
          have r5 := (H85.out.alloc (.cells #[.slice A' xs.length c'] 23)).grown hg3 (fun e => own_blk_ne H8R.out H85.out (by decide) e.symm)
          have rg := H8G.out.alloc (.cells #[.slice A' xs.length c'] 23)
          have rG : RG w w3 w.heap.size (w.heap.size + 1) #[.slice A3 lf.length c3, .int .i64 m, .slice A5 lc.length c5, .slice A6 lm.length c6, .slice A7 lh.length c7, .slice A8 k c8, .int .i64 0] := ⟨rg.rbk.grown hg3 (fun e => own_blk_ne H8R.out H8G.out.rbk (by decide) e.symm), rg.pbk.grown hg3 (fun e => own_blk_ne H8R.out H8G.out.pbk (by decide) e.symm), rg.bel.grown hg3 (by simp; omega) (fun r hr => (H8R.out.lt r hr).1), rg.lo, rg.ne⟩
          have rF : RwL w3 w.heap.size (.slice A9 (k + 1) c9) (l ++ [xs]) := by
            refine ⟨ts ++ [⟨xs, A', c'⟩], by rw [List.map_append, HTS.out]; rfl, by simpa [LS, TL.val, HLEN.out] using hown3, fun t ht => ?_⟩
            rcases List.mem_append.1 ht with ht | ht
            · exact hfg.own ((H8A.out t ht).alloc _) (fun i hi hs => own_ne (H8A.out t ht) H8R.out (by decide) i hi hs)
            · simp at ht
              subst ht
              exact hfg.own (H8O.out.alloc _) (fun i hi hs => own_ne H8O.out H8R.out (by decide) i hi hs)
          have hI : ∀ (u : Value) (xs : List Int), RwI W8 w.heap.size u xs → RwI w3 w.heap.size u xs := fun u xs h => hfg.own (h.below hal) (fun i hi hs => own_ne h H8R.out (by decide) i hi hs)
          have hF : RwF w3 w.heap.size (.slice A3 lf.length c3) lf := by
            obtain ⟨us, u1, u2, u3⟩ := P8.out
            exact ⟨us, u1, hfg.own (u2.alloc _) (fun i hi hs => own_ne u2 H8R.out (by decide) i hi hs), fun t ht => hfg.own ((u3 t ht).alloc _) (fun i hi hs => own_ne (u3 t ht) H8R.out (by decide) i hi hs)⟩
          have t0 := (rG.pbk.cell 5).trans rfl
          have t1 := rG.pbk.frozen 5
          have t2 := rG.pbk.lt
          have S5 : Hid (Blk (w3.setCell ⟨w.heap.size + 1, 5, none⟩ (.slice A9 (k + 1) c9)) gx 90 #[.slice A bs.length c, .int .i64 (s0.1 : Int), .int .i64 s0.2]) := r5.far (p := ⟨w.heap.size + 1, 5, none⟩) (show gx ≠ w.heap.size + 1 by omega) _
          have SG := Lib.hid (rG.set 5 (.slice A9 (k + 1) c9)); have SF := Lib.hid (rF.fr1 rG.pbk (by decide) (by decide) (fr_set 5 (.slice A9 (k + 1) c9)))
          have N0 := Lib.hid (hF.fr1 rG.pbk (by decide) (by decide) (fr_set 5 (.slice A9 (k + 1) c9))); have N1 := Lib.hid ((hI _ _ P9.out).fr1 rG.pbk (by decide) (fr_set 5 (.slice A9 (k + 1) c9))); have N2 := Lib.hid ((hI _ _ P10.out).fr1 rG.pbk (by decide) (fr_set 5 (.slice A9 (k + 1) c9))); have N3 := Lib.hid ((hI _ _ P11.out).fr1 rG.pbk (by decide) (fr_set 5 (.slice A9 (k + 1) c9)))
          clear hown3 hg3 hat3 hfg r5 rg rG rF p0 p1 hI hF hal
          go_wp2_with fail
          exact ⟨⟨k + 1, by omega, by go_num, A9, c9, by rw [HNX.out]; exact SF.out, SG.out, by rw [HNX.out]; exact S5.out, N0.out, N1.out, N2.out, N3.out⟩, by simp [intOf]; omega⟩
        · obtain rfl : k = nx := by omega
          rw [← HLPX.out] at hrow hb5 hlen
          simp only at hrow hb5 hlen
          subst hlen
          have Q3 := Lib.hid q0; have Q5 := Lib.hid q1; have Q6 := Lib.hid q2; have Q7 := Lib.hid q3; have Q8 := Lib.hid hrow; have GK8 := Lib.hid hg; have BK8 := Lib.hid hb5
          clear q0 q1 q2 q3 hrow hg hb5 hle HLPX HSX DX DLX D4 D5 D6 D7
          have d0 := (BK8.out.cell 0).trans rfl
          have d1 := (BK8.out.cell 1).trans rfl
          have d2 := (BK8.out.cell 2).trans rfl
          have zz9 := GK8.out.bel.size
          go_wp2_with fail
          refine (D9.out wv (HR.out.below (GK8.out.bel.mono hB)) (by omega)).mono ?_
          rintro e V9 ⟨rfl, hb⟩
          have hg' := GK8.out.below hb
          have y0 : V9.cell? ⟨w.heap.size + 1, 6, none⟩ = some (.int .i64 0) := (hg'.pbk.cell 6).trans rfl
          have y1 := hg'.pbk.frozen 6
          have y2 := hg'.pbk.lt
          obtain ⟨U9, hU9⟩ : ∃ X, X = (V9.setCell ⟨w.heap.size + 1, 6, none⟩ (.int .i64 th)).alloc (.cells #[.slice A bs.length c, .int .i64 (s9.1 : Int), .int .i64 s9.2] 90) := ⟨_, rfl⟩
          have hgn : RG w U9 w.heap.size (w.heap.size + 1) #[.slice A3 lf.length c3, .int .i64 m, .slice A5 lc.length c5, .slice A6 lm.length c6, .slice A7 lh.length c7, .slice A8 lx.length c8, .int .i64 th] := by rw [hU9]; exact (hg'.set 6 (.int .i64 th)).alloc _
          have hbn : Blk U9 V9.heap.size 90 #[.slice A bs.length c, .int .i64 (s9.1 : Int), .int .i64 s9.2] := by rw [hU9]; simpa using Blk.new (V9.setCell ⟨w.heap.size + 1, 6, none⟩ (.int .i64 th)) 90 #[.slice A bs.length c, .int .i64 (s9.1 : Int), .int .i64 s9.2]
          have hal : ∀ X : World, Below X.heap.size X (X.alloc (.cells #[.slice A bs.length c, .int .i64 (s9.1 : Int), .int .i64 s9.2] 90)) := fun X => (Below.refl _ _).alloc (Nat.le_refl _) _
          have gQ3 : RwF U9 w.heap.size (.slice A3 lf.length c3) lf := by rw [hU9]; exact ((Q3.out.below hb).fr1 hg'.pbk (by decide) (by decide) (fr_set 6 (.int .i64 th))).below (hal _)
          clear Q3
          have Q3 := Lib.hid gQ3
          clear gQ3
          have gQ5 : RwI U9 w.heap.size (.slice A5 lc.length c5) lc := by rw [hU9]; exact ((Q5.out.below hb).fr1 hg'.pbk (by decide) (fr_set 6 (.int .i64 th))).below (hal _)
          clear Q5
          have Q5 := Lib.hid gQ5
          clear gQ5
          have gQ6 : RwI U9 w.heap.size (.slice A6 lm.length c6) lm := by rw [hU9]; exact ((Q6.out.below hb).fr1 hg'.pbk (by decide) (fr_set 6 (.int .i64 th))).below (hal _)
          clear Q6
          have Q6 := Lib.hid gQ6
          clear gQ6
          have gQ7 : RwI U9 w.heap.size (.slice A7 lh.length c7) lh := by rw [hU9]; exact ((Q7.out.below hb).fr1 hg'.pbk (by decide) (fr_set 6 (.int .i64 th))).below (hal _)
          clear Q7
          have Q7 := Lib.hid gQ7
          clear gQ7
          have gQ8 : RwL U9 w.heap.size (.slice A8 lx.length c8) lx := by rw [hU9]; exact ((Q8.out.below hb).fr1 hg'.pbk (by decide) (by decide) (fr_set 6 (.int .i64 th))).below (hal _)
          clear Q8
          have Q8 := Lib.hid gQ8
          clear gQ8
          have GK9 := Lib.hid hgn; have BK9 := Lib.hid hbn
          have HU := Lib.hid hU9.symm
          clear hgn hbn hal hg' hb hU9 d0 d1 d2 GK8 BK8 zz9
          go_upto_region 26 with fail
          rw [HU.out]
          clear y0 y1 y2 HU
          have d1 := (BK9.out.cell 1).trans rfl
          have d2 := (BK9.out.cell 2).trans rfl
          have zr9 := GK9.out.rbk.lt
          have zp9 := GK9.out.pbk.lt
          have r0 : U9.cell? ⟨w.heap.size, 0, none⟩ = some (.slice none 0 0) := (GK9.out.rbk.cell 0).trans rfl
          have x0 := GK9.out.rbk.frozen 0
          have r1 : U9.cell? ⟨w.heap.size, 1, none⟩ = some (.int .i64 0) := (GK9.out.rbk.cell 1).trans rfl
          have x1 := GK9.out.rbk.frozen 1
          have r2 : U9.cell? ⟨w.heap.size, 2, none⟩ = some (.slice none 0 0) := (GK9.out.rbk.cell 2).trans rfl
          have x2 := GK9.out.rbk.frozen 2
          have r3 : U9.cell? ⟨w.heap.size, 3, none⟩ = some (.slice none 0 0) := (GK9.out.rbk.cell 3).trans rfl
          have x3 := GK9.out.rbk.frozen 3
          have r4 : U9.cell? ⟨w.heap.size, 4, none⟩ = some (.slice none 0 0) := (GK9.out.rbk.cell 4).trans rfl
          have x4 := GK9.out.rbk.frozen 4
          have r5 : U9.cell? ⟨w.heap.size, 5, none⟩ = some (.slice none 0 0) := (GK9.out.rbk.cell 5).trans rfl
          have x5 := GK9.out.rbk.frozen 5
          have r6 : U9.cell? ⟨w.heap.size, 6, none⟩ = some (.int .i64 0) := (GK9.out.rbk.cell 6).trans rfl
          have x6 := GK9.out.rbk.frozen 6
          have xz := GK9.out.rbk.lt
          by_cases he : s9.2 = 0
          · have he0 : (s9.2 != 0) = false := by simpa using he
            by_cases h9 : s9.1 < bs.length
            · have hrr : readE bs = 3 := by rw [HRE.out, if_neg (by simpa using he), if_pos h9]
              have HRR := Lib.hid hrr
              clear hrr he
              go_wp2_with fail
              refine bodyPost_ret (v := .tuple #[.agg #[.slice none 0 0, .int .i64 0, .slice none 0 0, .slice none 0 0, .slice none 0 0, .slice none 0 0, .int .i64 0], .int .i64 3]) (by simp [results, Try.results20, go_sem, r0, r1, r2, r3, r4, r5, r6, xz]) rfl ?_
              refine ⟨⟨none, 0, none, 0, none, 0, none, 0, none, 0⟩, ?_, ?_, ?_⟩
              · rw [HRR.out]; unfold readP; rw [if_neg (by rw [HRR.out]; decide)]; rfl
              · unfold readP; rw [if_neg (by rw [HRR.out]; decide)]; exact rp_no _ _
              · exact below7 GK9.out.bel (Nat.le_refl _) _ _ _ _ _ _ _
            · have hrp : RP U9 U9.heap.size ⟨A3, c3, A5, c5, A6, c6, A7, c7, A8, c8⟩ ⟨lf, m, lc, lm, lh, lx, th⟩ := ⟨Q3.out.rf rfl, Q5.out.ri rfl, Q6.out.ri rfl, Q7.out.ri rfl, Q8.out.rl rfl⟩
              have HMAY := Lib.hid (refMay_any ⟨A3, c3, A5, c5, A6, c6, A7, c7, A8, c8⟩ ⟨lf, m, lc, lm, lh, lx, th⟩ U9 U9.heap.size hrp (Nat.le_refl _) (few_lens HFEW.out))
              have HRE2 : Hid (readE bs = if mayB ⟨lf, m, lc, lm, lh, lx, th⟩ then 0 else 1) := by show _ = _; rw [HRE.out, if_neg (by simpa using he), if_neg h9]
              clear hrp he
              have k0 : U9.cell? ⟨w.heap.size + 1, 0, none⟩ = some (.slice A3 lf.length c3) := (GK9.out.pbk.cell 0).trans rfl
              have k1 : U9.cell? ⟨w.heap.size + 1, 1, none⟩ = some (.int .i64 m) := (GK9.out.pbk.cell 1).trans rfl
              have k2 : U9.cell? ⟨w.heap.size + 1, 2, none⟩ = some (.slice A5 lc.length c5) := (GK9.out.pbk.cell 2).trans rfl
              have k3 : U9.cell? ⟨w.heap.size + 1, 3, none⟩ = some (.slice A6 lm.length c6) := (GK9.out.pbk.cell 3).trans rfl
              have k4 : U9.cell? ⟨w.heap.size + 1, 4, none⟩ = some (.slice A7 lh.length c7) := (GK9.out.pbk.cell 4).trans rfl
              have k5 : U9.cell? ⟨w.heap.size + 1, 5, none⟩ = some (.slice A8 lx.length c8) := (GK9.out.pbk.cell 5).trans rfl
              have k6 : U9.cell? ⟨w.heap.size + 1, 6, none⟩ = some (.int .i64 th) := (GK9.out.pbk.cell 6).trans rfl
              go_wp2_with fail
              refine HMAY.out.mono ?_
              rintro e V2 ⟨rfl, hb2⟩
              have hg2 := GK9.out.below hb2
              have HB2 := Lib.hid hb2
              clear hb2 r0 r1 r2 r3 r4 r5 r6 x0 x1 x2 x3 x4 x5 x6 xz k0 k1 k2 k3 k4 k5 k6 d1 d2 HMAY
              have r0 : V2.cell? ⟨w.heap.size, 0, none⟩ = some (.slice none 0 0) := (hg2.rbk.cell 0).trans rfl
              have x0 := hg2.rbk.frozen 0
              have r1 : V2.cell? ⟨w.heap.size, 1, none⟩ = some (.int .i64 0) := (hg2.rbk.cell 1).trans rfl
              have x1 := hg2.rbk.frozen 1
              have r2 : V2.cell? ⟨w.heap.size, 2, none⟩ = some (.slice none 0 0) := (hg2.rbk.cell 2).trans rfl
              have x2 := hg2.rbk.frozen 2
              have r3 : V2.cell? ⟨w.heap.size, 3, none⟩ = some (.slice none 0 0) := (hg2.rbk.cell 3).trans rfl
              have x3 := hg2.rbk.frozen 3
              have r4 : V2.cell? ⟨w.heap.size, 4, none⟩ = some (.slice none 0 0) := (hg2.rbk.cell 4).trans rfl
              have x4 := hg2.rbk.frozen 4
              have r5 : V2.cell? ⟨w.heap.size, 5, none⟩ = some (.slice none 0 0) := (hg2.rbk.cell 5).trans rfl
              have x5 := hg2.rbk.frozen 5
              have r6 : V2.cell? ⟨w.heap.size, 6, none⟩ = some (.int .i64 0) := (hg2.rbk.cell 6).trans rfl
              have x6 := hg2.rbk.frozen 6
              have xz := hg2.rbk.lt
              have k0 : V2.cell? ⟨w.heap.size + 1, 0, none⟩ = some (.slice A3 lf.length c3) := (hg2.pbk.cell 0).trans rfl
              have k1 : V2.cell? ⟨w.heap.size + 1, 1, none⟩ = some (.int .i64 m) := (hg2.pbk.cell 1).trans rfl
              have k2 : V2.cell? ⟨w.heap.size + 1, 2, none⟩ = some (.slice A5 lc.length c5) := (hg2.pbk.cell 2).trans rfl
              have k3 : V2.cell? ⟨w.heap.size + 1, 3, none⟩ = some (.slice A6 lm.length c6) := (hg2.pbk.cell 3).trans rfl
              have k4 : V2.cell? ⟨w.heap.size + 1, 4, none⟩ = some (.slice A7 lh.length c7) := (hg2.pbk.cell 4).trans rfl
              have k5 : V2.cell? ⟨w.heap.size + 1, 5, none⟩ = some (.slice A8 lx.length c8) := (hg2.pbk.cell 5).trans rfl
              have k6 : V2.cell? ⟨w.heap.size + 1, 6, none⟩ = some (.int .i64 th) := (hg2.pbk.cell 6).trans rfl
              have dz := hg2.pbk.lt
              have G2 := Lib.hid hg2
              clear hg2
              cases hmb : mayB ⟨lf, m, lc, lm, lh, lx, th⟩
              · have hr : readE bs = 1 := by rw [HRE2.out, hmb]; rfl
                have HRR := Lib.hid hr
                clear hr hmb
                go_wp2_with fail
                refine bodyPost_ret (v := .tuple #[.agg #[.slice none 0 0, .int .i64 0, .slice none 0 0, .slice none 0 0, .slice none 0 0, .slice none 0 0, .int .i64 0], .int .i64 1]) (by simp [results, Try.results20, go_sem, r0, r1, r2, r3, r4, r5, r6, xz]) rfl ?_
                refine ⟨⟨none, 0, none, 0, none, 0, none, 0, none, 0⟩, ?_, ?_, ?_⟩
                · rw [HRR.out]; unfold readP; rw [if_neg (by rw [HRR.out]; decide)]; rfl
                · unfold readP; rw [if_neg (by rw [HRR.out]; decide)]; exact rp_no _ _
                · exact below7 G2.out.bel (Nat.le_refl _) _ _ _ _ _ _ _
              · have hr : readE bs = 0 := by rw [HRE2.out, hmb]; rfl
                have HRR := Lib.hid hr
                clear hr hmb
                go_wp2_with fail
                refine bodyPost_ret (v := .tuple #[.agg #[.slice A3 lf.length c3, .int .i64 m, .slice A5 lc.length c5, .slice A6 lm.length c6, .slice A7 lh.length c7, .slice A8 lx.length c8, .int .i64 th], .int .i64 0]) (by simp [results, Try.results20, go_sem, r0, r1, r2, r3, r4, r5, r6, xz]) rfl ?_
                have hrp : readP bs = ⟨lf, m, lc, lm, lh, lx, th⟩ := by unfold readP; rw [if_pos HRR.out, HPP.out]
                refine ⟨⟨A3, c3, A5, c5, A6, c6, A7, c7, A8, c8⟩, ?_, ?_, ?_⟩
                · rw [HRR.out, hrp]
                · rw [hrp]
                  exact ⟨((Q3.out.below HB2.out).fr1 G2.out.rbk (by decide) (by decide) (fr7 _ _ _ _ _ _ _)).rf rfl, ((Q5.out.below HB2.out).fr1 G2.out.rbk (by decide) (fr7 _ _ _ _ _ _ _)).ri rfl, ((Q6.out.below HB2.out).fr1 G2.out.rbk (by decide) (fr7 _ _ _ _ _ _ _)).ri rfl, ((Q7.out.below HB2.out).fr1 G2.out.rbk (by decide) (fr7 _ _ _ _ _ _ _)).ri rfl, ((Q8.out.below HB2.out).fr1 G2.out.rbk (by decide) (by decide) (fr7 _ _ _ _ _ _ _)).rl rfl⟩
                · exact below7 G2.out.bel (Nat.le_refl _) _ _ _ _ _ _ _
          · have he' : (s9.2 != 0) = true := by simpa using he
            have hrr : readE bs = s9.2 := by rw [HRE.out, if_pos he]
            have HRR := Lib.hid hrr; have HN := Lib.hid he
            clear hrr he
            have hne9 : V9.heap.size ≠ w.heap.size := fun e => Blk.ne_ BK9.out GK9.out.rbk (by decide) e
            have KS : Hid (∀ X : World, Fr (fun i => i = w.heap.size) U9 X → X.cell? ⟨V9.heap.size, 2, none⟩ = some (.int .i64 s9.2)) := fun X hf => ((hf.blk BK9.out hne9).cell 2).trans rfl
            clear hne9
            go_upto_region 27 with fail
            refine wp_region_noPanic ?_
            refine wp_region_held_drew (S := fun X => X.cell? ⟨V9.heap.size, 2, none⟩ = some (.int .i64 s9.2)) (by kernel_rfl) (KS.out _ (Fr.refl _ _).drew) (fun hHeld => ?_)
            refine take_yes (i := 0) (v := ?v0) rfl (by kernel_rfl) (by kernel_rfl) (by kernel_rfl) (fun _ _ _ h => h) (by rfl) (by assumption) ?hy0 ?rest0
            case hy0 => (intro w hSw; (try dsimp only at hSw); go_simp; try (with_reducible rfl))
            try simp only [Act.put, List.setIfInBounds_toArray, List.set_cons_zero, List.set_cons_succ]
            refine take_yes (i := 1) (v := ?v1) rfl (by kernel_rfl) (by kernel_rfl) (by kernel_rfl) (fun _ _ _ h => h) (by rfl) (by assumption) ?hy1 ?rest1
            case hy1 => (intro w hSw; (try dsimp only at hSw); go_simp; try (with_reducible rfl))
            try simp only [Act.put, List.setIfInBounds_toArray, List.set_cons_zero, List.set_cons_succ]
            refine take_yes (i := 2) (v := ?v2) rfl (by kernel_rfl) (by kernel_rfl) (by kernel_rfl) (fun _ _ _ h => h) (by rfl) (by assumption) ?hy2 ?rest2
            case hy2 => (intro w hSw; (try dsimp only at hSw); go_simp; try (with_reducible rfl))
            try simp only [Act.put, List.setIfInBounds_toArray, List.set_cons_zero, List.set_cons_succ]
            refine ready_one (i := 3) rfl (by kernel_rfl) (fun K hK => ?_)
            go_simp
            refine hK.out _ _ (KS.out _ (fr7 _ _ _ _ _ _ _).drew) (fun hHeld => ?_)
            clear hK K
            try simp only [Act.put, List.setIfInBounds_toArray, List.set_cons_zero, List.set_cons_succ]
            refine take_yes (i := 4) (v := ?v4) rfl (by kernel_rfl) (by kernel_rfl) (by kernel_rfl) (fun _ _ _ h => h) (by rfl) (by assumption) ?hy4 ?rest4
            case hy4 => (intro w hSw; (try dsimp only at hSw); go_simp; try (with_reducible rfl))
            try simp only [Act.put, List.setIfInBounds_toArray, List.set_cons_zero, List.set_cons_succ]
            refine wpAnyH_done (by kernel_rfl) ?_ _
            refine NoPanic.normal ?_
            go_wp2_with fail
            refine bodyPost_ret (v := .tuple #[.agg #[.slice none 0 0, .int .i64 0, .slice none 0 0, .slice none 0 0, .slice none 0 0, .slice none 0 0, .int .i64 0], .int .i64 s9.2]) (by simp [results, Try.results20, go_sem, r0, r1, r2, r3, r4, r5, r6, xz]) rfl ?_
            refine ⟨⟨none, 0, none, 0, none, 0, none, 0, none, 0⟩, ?_, ?_, ?_⟩
            · rw [HRR.out]; unfold readP; rw [if_neg (by rw [HRR.out]; exact HN.out)]; rfl
            · unfold readP; rw [if_neg (by rw [HRR.out]; exact HN.out)]; exact rp_no _ _
            · exact (below7 GK9.out.bel (Nat.le_refl _) _ _ _ _ _ _ _).drew
end
end Go.Proofs.Ytmjbfobjndiecaa
