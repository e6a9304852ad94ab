
/-
  The program's reading of a list: how many there are, then each; of numbers, instructions, rows of numbers, functions.
-/
import Derived.Test.YtmjbfobjndiecaaCrA
import Derived.Test.YtmjbfobjndiecaaGoodM
import Derived.Test.YtmjbfobjndiecaaPrB
import Derived.Test.YtmjbfobjndiecaaGood
import Derived.Deep.RegionHeld3
import Derived.Deep.RegionLaw
set_option linter.unusedVariables false
set_option linter.unusedSimpArgs false
namespace Go.Proofs.Ytmjbfobjndiecaa
open Go.RowKit Plain

theorem Rd.grown {w w' : World} {base g at_ b2 size n : Nat} {v u : Value} {bs : List Nat} {e : Int} {T : TypeId} {xs : List Value} (h : Rd w base g v bs at_ e) (ho : w.ownsRow b2 T size u n xs) (hT : T ≠ 110) (hT' : 5 ≠ T) (hg : w.grownBy w' u.ownBlock) : Rd w' base g v bs at_ e :=
  h.fr (Fr.of_grown hg) (fun hs => own_blk_ne ho h.1 hT hs) (fun i hi hs => own_ne h.2.1 ho hT' i hi hs)
theorem Fr.grow {S : Nat → Prop} {w w1 w2 : World} {size n : Nat} {u : Value} {T : TypeId} {xs : List Value} (h : Fr S w w1) (ho : w1.ownsRow w.heap.size T size u n xs) (hg : w1.grownBy w2 u.ownBlock) : Fr S w w2 :=
  h.trans (Fr.of_grown hg) (fun i hi hs => by have := (ho.lt i hs).1; omega)
/-- What stands for a number, an instruction, a row of numbers, a function that was read. -/
def ElI (_w : World) (_B : Nat) (val : Value) (x : Int) : Prop := val = .int .i64 x
def ElN (_w : World) (_B : Nat) (val : Value) (x : IV) : Prop := val = .agg #[.int .i64 x.op, .int .i64 x.a]
def ElL (w : World) (B : Nat) (val : Value) (x : List Int) : Prop := ∃ A c, val = .slice A x.length c ∧ w.ownsRow B 3 1 (.slice A x.length c) x.length (IS x)
def ElF (w : World) (B : Nat) (val : Value) (x : FV) : Prop := ∃ A c, val = .agg #[.int .i64 x.locals, .slice A x.code.length c] ∧ w.ownsRow B 47 2 (.slice A x.code.length c) x.code.length (CS x.code)
/-- Rows of what was read. -/
def RwI (w : World) (B : Nat) (u : Value) (l : List Int) : Prop := w.ownsRow B 3 1 u l.length (IS l)
def RwN (w : World) (B : Nat) (u : Value) (l : List IV) : Prop := w.ownsRow B 47 2 u l.length (CS l)
def RwL (w : World) (B : Nat) (u : Value) (l : List (List Int)) : Prop := ∃ ts : List TL, ts.map TL.l = l ∧ w.ownsRow B 23 1 u l.length (LS ts) ∧ ∀ t ∈ ts, w.ownsRow B 3 1 t.val t.l.length (IS t.l)
def RwF (w : World) (B : Nat) (u : Value) (l : List FV) : Prop := ∃ ts : List TF, ts.map TF.f = l ∧ w.ownsRow B 45 2 u l.length (FS ts) ∧ ∀ t ∈ ts, w.ownsRow B 47 2 t.val t.f.code.length (CS t.f.code)
theorem RwI_slice {w : World} {B : Nat} {u : Value} {l : List Int} (h : RwI w B u l) : ∃ A c, u = .slice A l.length c := by obtain ⟨A, c, h, _, _⟩ := own_slice h; exact ⟨A, c, h⟩
theorem RwN_slice {w : World} {B : Nat} {u : Value} {l : List IV} (h : RwN w B u l) : ∃ A c, u = .slice A l.length c := by obtain ⟨A, c, h, _, _⟩ := own_slice h; exact ⟨A, c, h⟩
theorem RwL_slice {w : World} {B : Nat} {u : Value} {l : List (List Int)} (h : RwL w B u l) : ∃ A c, u = .slice A l.length c := by obtain ⟨_, _, h, _⟩ := h; obtain ⟨A, c, h, _, _⟩ := own_slice h; exact ⟨A, c, h⟩
theorem RwF_slice {w : World} {B : Nat} {u : Value} {l : List FV} (h : RwF w B u l) : ∃ A c, u = .slice A l.length c := by obtain ⟨_, _, h, _⟩ := h; obtain ⟨A, c, h, _, _⟩ := own_slice h; exact ⟨A, c, h⟩

def RdRI (base g : Nat) (v : Value) (bs : List Nat) (w : World) (s1 : Sx) (n : Nat) (s7 s11 : Value) (wr : World) : Prop :=
  ∃ k : Nat, k ≤ n ∧ s11 = .int .i64 (k : Int) ∧ RwI wr w.heap.size s7 (iterP (stP sh bs) k s1).1 ∧ Rd wr base g v bs (iterP (stP sh bs) k s1).2.1 (iterP (stP sh bs) k s1).2.2 ∧ Fr (fun i => i = g) w wr
set_option maxHeartbeats 4000000 in
set_option maxRecDepth 100000 in
theorem readListI (base g m : Nat) (v : Value) (bs : List Nat) (s : Sx) (w : World) (hR : Rd w base g v bs s.1 s.2) (hx : ∀ x ∈ bs, x < 256) (hn : bs.length ≤ 140737488355328) (hm : m ≤ 100)
    (hcl : ∀ (W : World) (s' : Sx), Fr (fun i => i = g) w W → Rd W base g v bs s'.1 s'.2 → Calls Try.prog 46 #[.pointer (some ⟨g, 0, none⟩)] W fun en w' => ∃ val, en = .returned val ∧ ElI w' W.heap.size val ((stP sh bs) s').1 ∧ RdStep base g v bs ((stP sh bs) s').2 W w') :
    Calls Try.prog 47 #[.pointer (some ⟨g, 0, none⟩), .int .i64 (m : Int), .func (.func 46) #[.pointer (some ⟨g, 0, none⟩)] #[]] w fun e w' => ∃ A c, e = .returned (.slice A (listP (stP sh bs) m bs s).1.length c) ∧ RwI w' w.heap.size (.slice A (listP (stP sh bs) m bs s).1.length c) (listP (stP sh bs) m bs s).1 ∧ RdStep base g v bs (listP (stP sh bs) m bs s).2 w w' := by
  obtain ⟨a, e⟩ := s
  simp only at hR
  have hat := hR.2.2
  obtain ⟨i0, hi0, hz0, hz1, hz2⟩ := info_parts info_int
  have hl := (told_list bs bs.length a none e base g v 0 hx (Nat.le_refl _) hn hat m).2 w hR
  obtain ⟨n, hn1, hn2, hn3⟩ := ls_nat m bs (a, e)
  have hlp : listP (stP sh bs) m bs (a, e) = iterP (stP sh bs) n (stP (ls m) bs (a, e)).2 := by unfold listP; rw [hn1]; rfl
  rw [hn1] at hl
  generalize stP (ls m) bs (a, e) = q at *
  obtain ⟨q1, s1⟩ := q
  simp only at hl hlp hn1
  rw [hlp]
  have HCL := Lib.hid hcl
  have HL := Lib.hid hl
  clear hcl hl hlp hn1 hR hat hx
  go_enter Try.func47, Try.ntmps47
  go_wp2_with fail
  refine HL.out.mono ?_
  rintro en w1 ⟨rfl, hr1, hf1⟩
  simp only at hr1
  have HR1 := Lib.hid hr1
  have HF1 := Lib.hid hf1
  clear hr1 hf1
  go_wp2_with fail
  go_loopw [7, 11] (fun s7 s11 wr => RdRI base g v bs w s1 n s7 s11 wr) (fun _ s11 _ => n - (intOf s11).toNat)
  case atStart => exact ⟨0, by omega, rfl, World.ownsRow_nil _ _ _ _, HR1.out, HF1.out⟩
  case round =>
    obtain ⟨k, hk, rfl, hrow, hrd, hfr⟩ := hrel
    have hlen := iterP_length (stP sh bs) k s1
    by_cases hlt : k < n
    · have hnx : iterP (stP sh bs) (k + 1) s1 = ((iterP (stP sh bs) k s1).1 ++ [((stP sh bs) (iterP (stP sh bs) k s1).2).1], ((stP sh bs) (iterP (stP sh bs) k s1).2).2) := rfl
      generalize iterP (stP sh bs) k s1 = it at hrow hrd hlen hnx
      obtain ⟨l, s2⟩ := it
      simp only at hrow hrd hlen hnx
      have hcall := HCL.out wr s2 hfr hrd
      generalize (stP sh bs) s2 = q at hcall hnx
      obtain ⟨x, s3⟩ := q
      simp only at hcall hnx
      unfold RwI at hrow
      rw [hlen] at hrow
      obtain ⟨A, c, rfl, hc, _⟩ := own_slice hrow
      have HBG := Lib.hid hrd.1
      have HROW := Lib.hid hrow
      have HFR := Lib.hid hfr
      have HNX := Lib.hid hnx
      have HLEN := Lib.hid hlen
      have HCALL := Lib.hid hcall
      have hz := hfr.size
      clear hrow hrd hfr hnx hlen hcall
      go_upto_region 4 with fail
      go_wp2_with fail
      refine HCALL.out.mono ?_
      rintro en w6 ⟨val, rfl, rfl, hst⟩
      have HST := Lib.hid hst
      have hz6 := hst.lt
      have HO6 : Hid (w6.ownsRow w.heap.size 3 1 (.slice A k c) k (IS l)) := hst.2.own HROW.out (fun i hi hs => own_blk_ne HROW.out HBG.out (by decide) (hs ▸ hi))
      clear hst
      go_wp2_with (at_builtin; go_must (refine wpList_append_any _ rfl (.tmp 13) (.tmp 16) _ rfl w.heap.size 3 i0 _ 1 8 Try.underlying23 hi0 hz0 hz1 hz2 rfl (by decide) (.slice A k c) k (IS l) rfl (HO6.out.alloc _) (w6.heap.size + 1) (some ⟨w6.heap.size, 0, none⟩) 1 1 [.int .i64 x] rfl (reads_new w6 (.int .i64 x) _) (by intro u hu; simp at hu; first | (subst hu; rfl) | (rcases hu with rfl | rfl <;> rfl)) ?c1 ?c2 ?c3 ?k))
      case c1 => unfold maxLen; omega
      case c2 => omega
      case c3 => simp; omega
      case k =>
      intro v3 w3 hown3 hg3 hat3
      have hfr3 : Fr (fun i => i = g) w w3 := ((HFR.out.trans HST.out.2 (fun _ _ h => h)).alloc _).grow (HO6.out.alloc _) hg3
      have hrd3 : Rd w3 base g v bs s3.1 s3.2 := (HST.out.1.alloc _).grown (HO6.out.alloc _) (by decide) (by decide) hg3
      have HRW : Hid (RwI w3 w.heap.size v3 (l ++ [x])) := by
        show RwI w3 w.heap.size v3 (l ++ [x])
        simpa [RwI, IS, HLEN.out] using hown3
      have HFR3 := Lib.hid hfr3
      have HRD3 := Lib.hid hrd3
      clear hfr3 hrd3 hown3 hg3 hat3
      go_wp2_with fail
      exact ⟨⟨k + 1, by omega, by go_num, by rw [HNX.out]; exact HRW.out, by rw [HNX.out]; exact HRD3.out, HFR3.out⟩, by simp [intOf]; omega⟩
    · obtain rfl : k = n := by omega
      obtain ⟨A, c, rfl⟩ := RwI_slice hrow
      have HROW := Lib.hid hrow
      have HRD := Lib.hid hrd
      have HFR := Lib.hid hfr
      clear hrow hrd hfr hlen
      generalize hit : iterP (stP sh bs) k s1 = it at HROW HRD
      have HIT := Lib.hid hit
      clear hit
      go_wp2_with fail
      go_ret
      rw [HIT.out]
      exact ⟨A, c, rfl, HROW.out, HRD.out, HFR.out⟩

def RdRN (base g : Nat) (v : Value) (bs : List Nat) (w : World) (s1 : Sx) (n : Nat) (s7 s11 : Value) (wr : World) : Prop :=
  ∃ k : Nat, k ≤ n ∧ s11 = .int .i64 (k : Int) ∧ RwN wr w.heap.size s7 (iterP (instrP bs) k s1).1 ∧ Rd wr base g v bs (iterP (instrP bs) k s1).2.1 (iterP (instrP bs) k s1).2.2 ∧ Fr (fun i => i = g) w wr
set_option maxHeartbeats 4000000 in
set_option maxRecDepth 100000 in
theorem readListN (base g m cb : Nat) (v : Value) (bs : List Nat) (s : Sx) (w : World) (hR : Rd w base g v bs s.1 s.2) (hx : ∀ x ∈ bs, x < 256) (hn : bs.length ≤ 140737488355328) (hm : m ≤ 100)
    (hcl : ∀ (W : World) (s' : Sx), Fr (fun i => i = g) w W → Rd W base g v bs s'.1 s'.2 → Calls Try.prog 77 #[.pointer (some ⟨cb, 0, none⟩)] W fun en w' => ∃ val, en = .returned val ∧ ElN w' W.heap.size val ((instrP bs) s').1 ∧ RdStep base g v bs ((instrP bs) s').2 W w') :
    Calls Try.prog 76 #[.pointer (some ⟨g, 0, none⟩), .int .i64 (m : Int), .func (.func 77) #[] #[.pointer (some ⟨cb, 0, none⟩)]] w fun e w' => ∃ A c, e = .returned (.slice A (listP (instrP bs) m bs s).1.length c) ∧ RwN w' w.heap.size (.slice A (listP (instrP bs) m bs s).1.length c) (listP (instrP bs) m bs s).1 ∧ RdStep base g v bs (listP (instrP bs) m bs s).2 w w' := by
  obtain ⟨a, e⟩ := s
  simp only at hR
  have hat := hR.2.2
  obtain ⟨i0, hi0, hz0, hz1, hz2⟩ := info_parts info_instr
  have hl := (told_list bs bs.length a none e base g v 0 hx (Nat.le_refl _) hn hat m).2 w hR
  obtain ⟨n, hn1, hn2, hn3⟩ := ls_nat m bs (a, e)
  have hlp : listP (instrP bs) m bs (a, e) = iterP (instrP bs) n (stP (ls m) bs (a, e)).2 := by unfold listP; rw [hn1]; rfl
  rw [hn1] at hl
  generalize stP (ls m) bs (a, e) = q at *
  obtain ⟨q1, s1⟩ := q
  simp only at hl hlp hn1
  rw [hlp]
  have HCL := Lib.hid hcl
  have HL := Lib.hid hl
  clear hcl hl hlp hn1 hR hat hx
  go_enter Try.func76, Try.ntmps76
  go_wp2_with fail
  refine HL.out.mono ?_
  rintro en w1 ⟨rfl, hr1, hf1⟩
  simp only at hr1
  have HR1 := Lib.hid hr1
  have HF1 := Lib.hid hf1
  clear hr1 hf1
  go_wp2_with fail
  go_loopw [7, 11] (fun s7 s11 wr => RdRN base g v bs w s1 n s7 s11 wr) (fun _ s11 _ => n - (intOf s11).toNat)
  case atStart => exact ⟨0, by omega, rfl, World.ownsRow_nil _ _ _ _, HR1.out, HF1.out⟩
  case round =>
    obtain ⟨k, hk, rfl, hrow, hrd, hfr⟩ := hrel
    have hlen := iterP_length (instrP bs) k s1
    by_cases hlt : k < n
    · have hnx : iterP (instrP bs) (k + 1) s1 = ((iterP (instrP bs) k s1).1 ++ [((instrP bs) (iterP (instrP bs) k s1).2).1], ((instrP bs) (iterP (instrP bs) k s1).2).2) := rfl
      generalize iterP (instrP bs) k s1 = it at hrow hrd hlen hnx
      obtain ⟨l, s2⟩ := it
      simp only at hrow hrd hlen hnx
      have hcall := HCL.out wr s2 hfr hrd
      generalize (instrP bs) s2 = q at hcall hnx
      obtain ⟨x, s3⟩ := q
      simp only at hcall hnx
      unfold RwN at hrow
      rw [hlen] at hrow
      obtain ⟨A, c, rfl, hc, _⟩ := own_slice hrow
      have HBG := Lib.hid hrd.1
      have HROW := Lib.hid hrow
      have HFR := Lib.hid hfr
      have HNX := Lib.hid hnx
      have HLEN := Lib.hid hlen
      have HCALL := Lib.hid hcall
      have hz := hfr.size
      clear hrow hrd hfr hnx hlen hcall
      go_upto_region 4 with fail
      go_wp2_with fail
      refine HCALL.out.mono ?_
      rintro en w6 ⟨val, rfl, rfl, hst⟩
      have HST := Lib.hid hst
      have hz6 := hst.lt
      have HO6 : Hid (w6.ownsRow w.heap.size 47 2 (.slice A k c) k (CS l)) := hst.2.own HROW.out (fun i hi hs => own_blk_ne HROW.out HBG.out (by decide) (hs ▸ hi))
      clear hst
      go_wp2_with (at_builtin; go_must (refine wpList_append_any _ rfl (.tmp 13) (.tmp 16) _ rfl w.heap.size 47 i0 _ 2 16 Try.underlying43 hi0 hz0 hz1 hz2 rfl (by decide) (.slice A k c) k (CS l) rfl (HO6.out.alloc _) (w6.heap.size + 1) (some ⟨w6.heap.size, 0, none⟩) 1 1 [.int .i64 x.op, .int .i64 x.a] rfl (reads_new2 w6 (.int .i64 x.op) (.int .i64 x.a) _) (by intro u hu; simp at hu; first | (subst hu; rfl) | (rcases hu with rfl | rfl <;> rfl)) ?c1 ?c2 ?c3 ?k))
      case c1 => unfold maxLen; omega
      case c2 => omega
      case c3 => simp; omega
      case k =>
      intro v3 w3 hown3 hg3 hat3
      have hfr3 : Fr (fun i => i = g) w w3 := ((HFR.out.trans HST.out.2 (fun _ _ h => h)).alloc _).grow (HO6.out.alloc _) hg3
      have hrd3 : Rd w3 base g v bs s3.1 s3.2 := (HST.out.1.alloc _).grown (HO6.out.alloc _) (by decide) (by decide) hg3
      have HRW : Hid (RwN w3 w.heap.size v3 (l ++ [x])) := by
        show RwN w3 w.heap.size v3 (l ++ [x])
        simpa [RwN, CS, flat2, HLEN.out] using hown3
      have HFR3 := Lib.hid hfr3
      have HRD3 := Lib.hid hrd3
      clear hfr3 hrd3 hown3 hg3 hat3
      go_wp2_with fail
      exact ⟨⟨k + 1, by omega, by go_num, by rw [HNX.out]; exact HRW.out, by rw [HNX.out]; exact HRD3.out, HFR3.out⟩, by simp [intOf]; omega⟩
    · obtain rfl : k = n := by omega
      obtain ⟨A, c, rfl⟩ := RwN_slice hrow
      have HROW := Lib.hid hrow
      have HRD := Lib.hid hrd
      have HFR := Lib.hid hfr
      clear hrow hrd hfr hlen
      generalize hit : iterP (instrP bs) k s1 = it at HROW HRD
      have HIT := Lib.hid hit
      clear hit
      go_wp2_with fail
      go_ret
      rw [HIT.out]
      exact ⟨A, c, rfl, HROW.out, HRD.out, HFR.out⟩

def RdRL (base g : Nat) (v : Value) (bs : List Nat) (w : World) (s1 : Sx) (n : Nat) (s7 s11 : Value) (wr : World) : Prop :=
  ∃ k : Nat, k ≤ n ∧ s11 = .int .i64 (k : Int) ∧ RwL wr w.heap.size s7 (iterP (intsP bs) k s1).1 ∧ Rd wr base g v bs (iterP (intsP bs) k s1).2.1 (iterP (intsP bs) k s1).2.2 ∧ Fr (fun i => i = g) w wr
set_option maxHeartbeats 4000000 in
set_option maxRecDepth 100000 in
theorem readListL (base g m cb : Nat) (v : Value) (bs : List Nat) (s : Sx) (w : World) (hR : Rd w base g v bs s.1 s.2) (hx : ∀ x ∈ bs, x < 256) (hn : bs.length ≤ 140737488355328) (hm : m ≤ 100)
    (hcl : ∀ (W : World) (s' : Sx), Fr (fun i => i = g) w W → Rd W base g v bs s'.1 s'.2 → Calls Try.prog 49 #[.pointer (some ⟨cb, 0, none⟩)] W fun en w' => ∃ val, en = .returned val ∧ ElL w' W.heap.size val ((intsP bs) s').1 ∧ RdStep base g v bs ((intsP bs) s').2 W w') :
    Calls Try.prog 48 #[.pointer (some ⟨g, 0, none⟩), .int .i64 (m : Int), .func (.func 49) #[] #[.pointer (some ⟨cb, 0, none⟩)]] w fun e w' => ∃ A c, e = .returned (.slice A (listP (intsP bs) m bs s).1.length c) ∧ RwL w' w.heap.size (.slice A (listP (intsP bs) m bs s).1.length c) (listP (intsP bs) m bs s).1 ∧ RdStep base g v bs (listP (intsP bs) m bs s).2 w w' := by
  obtain ⟨a, e⟩ := s
  simp only at hR
  have hat := hR.2.2
  obtain ⟨i0, hi0, hz0, hz1, hz2⟩ := info_parts info_ints
  have hl := (told_list bs bs.length a none e base g v 0 hx (Nat.le_refl _) hn hat m).2 w hR
  obtain ⟨n, hn1, hn2, hn3⟩ := ls_nat m bs (a, e)
  have hlp : listP (intsP bs) m bs (a, e) = iterP (intsP bs) n (stP (ls m) bs (a, e)).2 := by unfold listP; rw [hn1]; rfl
  rw [hn1] at hl
  generalize stP (ls m) bs (a, e) = q at *
  obtain ⟨q1, s1⟩ := q
  simp only at hl hlp hn1
  rw [hlp]
  have HCL := Lib.hid hcl
  have HL := Lib.hid hl
  clear hcl hl hlp hn1 hR hat hx
  go_enter Try.func48, Try.ntmps48
  go_wp2_with fail
  refine HL.out.mono ?_
  rintro en w1 ⟨rfl, hr1, hf1⟩
  simp only at hr1
  have HR1 := Lib.hid hr1
  have HF1 := Lib.hid hf1
  clear hr1 hf1
  go_wp2_with fail
  go_loopw [7, 11] (fun s7 s11 wr => RdRL base g v bs w s1 n s7 s11 wr) (fun _ s11 _ => n - (intOf s11).toNat)
  case atStart => exact ⟨0, by omega, rfl, ⟨[], rfl, World.ownsRow_nil _ _ _ _, by simp⟩, HR1.out, HF1.out⟩
  case round =>
    obtain ⟨k, hk, rfl, hrow, hrd, hfr⟩ := hrel
    have hlen := iterP_length (intsP bs) k s1
    by_cases hlt : k < n
    · have hnx : iterP (intsP bs) (k + 1) s1 = ((iterP (intsP bs) k s1).1 ++ [((intsP bs) (iterP (intsP bs) k s1).2).1], ((intsP bs) (iterP (intsP bs) k s1).2).2) := rfl
      generalize iterP (intsP bs) k s1 = it at hrow hrd hlen hnx
      obtain ⟨l, s2⟩ := it
      simp only at hrow hrd hlen hnx
      have hcall := HCL.out wr s2 hfr hrd
      generalize (intsP bs) s2 = q at hcall hnx
      obtain ⟨x, s3⟩ := q
      simp only at hcall hnx
      obtain ⟨ts, hts, hrow, hall⟩ := hrow
      rw [hlen] at hrow
      have htl : ts.length = k := by rw [← hlen, ← hts, List.length_map]
      obtain ⟨A, c, rfl, hc, _⟩ := own_slice hrow
      have HTS := Lib.hid hts
      have HALL := Lib.hid hall
      have HTL := Lib.hid htl
      clear hts hall htl
      have HBG := Lib.hid hrd.1
      have HROW := Lib.hid hrow
      have HFR := Lib.hid hfr
      have HNX := Lib.hid hnx
      have HLEN := Lib.hid hlen
      have HCALL := Lib.hid hcall
      have hz := hfr.size
      clear hrow hrd hfr hnx hlen hcall
      go_upto_region 4 with fail
      go_wp2_with fail
      refine HCALL.out.mono ?_
      rintro en w6 ⟨val, rfl, ⟨A6, c6, rfl, ho6⟩, hst⟩
      have HST := Lib.hid hst
      have hz6 := hst.lt
      have HO6 : Hid (w6.ownsRow w.heap.size 23 1 (.slice A k c) k (LS ts)) := hst.2.own HROW.out (fun i hi hs => own_blk_ne HROW.out HBG.out (by decide) (hs ▸ hi))
      have HO := Lib.hid ho6
      clear ho6
      clear hst
      go_wp2_with (at_builtin; go_must (refine wpList_append_any _ rfl (.tmp 13) (.tmp 16) _ rfl w.heap.size 23 i0 _ 1 24 Try.underlying24 hi0 hz0 hz1 hz2 rfl (by decide) (.slice A k c) k (LS ts) rfl (HO6.out.alloc _) (w6.heap.size + 1) (some ⟨w6.heap.size, 0, none⟩) 1 1 [.slice A6 x.length c6] rfl (reads_new w6 (.slice A6 x.length c6) _) (by intro u hu; simp at hu; first | (subst hu; rfl) | (rcases hu with rfl | rfl <;> rfl)) ?c1 ?c2 ?c3 ?k))
      case c1 => unfold maxLen; omega
      case c2 => omega
      case c3 => simp; omega
      case k =>
      intro v3 w3 hown3 hg3 hat3
      have hfr3 : Fr (fun i => i = g) w w3 := ((HFR.out.trans HST.out.2 (fun _ _ h => h)).alloc _).grow (HO6.out.alloc _) hg3
      have hrd3 : Rd w3 base g v bs s3.1 s3.2 := (HST.out.1.alloc _).grown (HO6.out.alloc _) (by decide) (by decide) hg3
      have HRW : Hid (RwL w3 w.heap.size v3 (l ++ [x])) := by
        show RwL w3 w.heap.size v3 (l ++ [x])
        refine ⟨ts ++ [⟨x, A6, c6⟩], by rw [List.map_append, HTS.out]; rfl, by simpa [LS, TL.val, HLEN.out] using hown3, fun t ht => ?_⟩
        have hin : ∀ (B2 : Nat) (t : TL), w.heap.size ≤ B2 → w6.ownsRow B2 3 1 t.val t.l.length (IS t.l) → w3.ownsRow w.heap.size 3 1 t.val t.l.length (IS t.l) := fun B2 t hB ho => 
          own_mono ((Fr.of_grown hg3).own (ho.alloc _) (fun i hi hs => own_ne ho HO6.out (by decide) i hi hs)) hB
        rcases List.mem_append.1 ht with ht | ht
        · exact hin _ t (Nat.le_refl _) (HST.out.2.own (HALL.out t ht) (fun i hi hs => own_blk_ne (HALL.out t ht) HBG.out (by decide) (hs ▸ hi)))
        · simp at ht
          subst ht
          exact hin _ _ hz HO.out
      have HFR3 := Lib.hid hfr3
      have HRD3 := Lib.hid hrd3
      clear hfr3 hrd3 hown3 hg3 hat3
      go_wp2_with fail
      exact ⟨⟨k + 1, by omega, by go_num, by rw [HNX.out]; exact HRW.out, by rw [HNX.out]; exact HRD3.out, HFR3.out⟩, by simp [intOf]; omega⟩
    · obtain rfl : k = n := by omega
      obtain ⟨A, c, rfl⟩ := RwL_slice hrow
      have HROW := Lib.hid hrow
      have HRD := Lib.hid hrd
      have HFR := Lib.hid hfr
      clear hrow hrd hfr hlen
      generalize hit : iterP (intsP bs) k s1 = it at HROW HRD
      have HIT := Lib.hid hit
      clear hit
      go_wp2_with fail
      go_ret
      rw [HIT.out]
      exact ⟨A, c, rfl, HROW.out, HRD.out, HFR.out⟩

def RdRF (base g : Nat) (v : Value) (bs : List Nat) (w : World) (s1 : Sx) (n : Nat) (s7 s11 : Value) (wr : World) : Prop :=
  ∃ k : Nat, k ≤ n ∧ s11 = .int .i64 (k : Int) ∧ RwF wr w.heap.size s7 (iterP (funcP bs) k s1).1 ∧ Rd wr base g v bs (iterP (funcP bs) k s1).2.1 (iterP (funcP bs) k s1).2.2 ∧ Fr (fun i => i = g) w wr
set_option maxHeartbeats 4000000 in
set_option maxRecDepth 100000 in
theorem readListF (base g m cb : Nat) (v : Value) (bs : List Nat) (s : Sx) (w : World) (hR : Rd w base g v bs s.1 s.2) (hx : ∀ x ∈ bs, x < 256) (hn : bs.length ≤ 140737488355328) (hm : m ≤ 100)
    (hcl : ∀ (W : World) (s' : Sx), Fr (fun i => i = g) w W → Rd W base g v bs s'.1 s'.2 → Calls Try.prog 44 #[.pointer (some ⟨cb, 0, none⟩)] W fun en w' => ∃ val, en = .returned val ∧ ElF w' W.heap.size val ((funcP bs) s').1 ∧ RdStep base g v bs ((funcP bs) s').2 W w') :
    Calls Try.prog 43 #[.pointer (some ⟨g, 0, none⟩), .int .i64 (m : Int), .func (.func 44) #[] #[.pointer (some ⟨cb, 0, none⟩)]] w fun e w' => ∃ A c, e = .returned (.slice A (listP (funcP bs) m bs s).1.length c) ∧ RwF w' w.heap.size (.slice A (listP (funcP bs) m bs s).1.length c) (listP (funcP bs) m bs s).1 ∧ RdStep base g v bs (listP (funcP bs) m bs s).2 w w' := by
  obtain ⟨a, e⟩ := s
  simp only at hR
  have hat := hR.2.2
  obtain ⟨i0, hi0, hz0, hz1, hz2⟩ := info_parts info_func
  have hl := (told_list bs bs.length a none e base g v 0 hx (Nat.le_refl _) hn hat m).2 w hR
  obtain ⟨n, hn1, hn2, hn3⟩ := ls_nat m bs (a, e)
  have hlp : listP (funcP bs) m bs (a, e) = iterP (funcP bs) n (stP (ls m) bs (a, e)).2 := by unfold listP; rw [hn1]; rfl
  rw [hn1] at hl
  generalize stP (ls m) bs (a, e) = q at *
  obtain ⟨q1, s1⟩ := q
  simp only at hl hlp hn1
  rw [hlp]
  have HCL := Lib.hid hcl
  have HL := Lib.hid hl
  clear hcl hl hlp hn1 hR hat hx
  go_enter Try.func43, Try.ntmps43
  go_wp2_with fail
  refine HL.out.mono ?_
  rintro en w1 ⟨rfl, hr1, hf1⟩
  simp only at hr1
  have HR1 := Lib.hid hr1
  have HF1 := Lib.hid hf1
  clear hr1 hf1
  go_wp2_with fail
  go_loopw [7, 11] (fun s7 s11 wr => RdRF base g v bs w s1 n s7 s11 wr) (fun _ s11 _ => n - (intOf s11).toNat)
  case atStart => exact ⟨0, by omega, rfl, ⟨[], rfl, World.ownsRow_nil _ _ _ _, by simp⟩, HR1.out, HF1.out⟩
  case round =>
    obtain ⟨k, hk, rfl, hrow, hrd, hfr⟩ := hrel
    have hlen := iterP_length (funcP bs) k s1
    by_cases hlt : k < n
    · have hnx : iterP (funcP bs) (k + 1) s1 = ((iterP (funcP bs) k s1).1 ++ [((funcP bs) (iterP (funcP bs) k s1).2).1], ((funcP bs) (iterP (funcP bs) k s1).2).2) := rfl
      generalize iterP (funcP bs) k s1 = it at hrow hrd hlen hnx
      obtain ⟨l, s2⟩ := it
      simp only at hrow hrd hlen hnx
      have hcall := HCL.out wr s2 hfr hrd
      generalize (funcP bs) s2 = q at hcall hnx
      obtain ⟨x, s3⟩ := q
      simp only at hcall hnx
      obtain ⟨ts, hts, hrow, hall⟩ := hrow
      rw [hlen] at hrow
      have htl : ts.length = k := by rw [← hlen, ← hts, List.length_map]
      obtain ⟨A, c, rfl, hc, _⟩ := own_slice hrow
      have HTS := Lib.hid hts
      have HALL := Lib.hid hall
      have HTL := Lib.hid htl
      clear hts hall htl
      have HBG := Lib.hid hrd.1
      have HROW := Lib.hid hrow
      have HFR := Lib.hid hfr
      have HNX := Lib.hid hnx
      have HLEN := Lib.hid hlen
      have HCALL := Lib.hid hcall
      have hz := hfr.size
      clear hrow hrd hfr hnx hlen hcall
      go_upto_region 4 with fail
      go_wp2_with fail
      refine HCALL.out.mono ?_
      rintro en w6 ⟨val, rfl, ⟨A6, c6, rfl, ho6⟩, hst⟩
      have HST := Lib.hid hst
      have hz6 := hst.lt
      have HO6 : Hid (w6.ownsRow w.heap.size 45 2 (.slice A k c) k (FS ts)) := hst.2.own HROW.out (fun i hi hs => own_blk_ne HROW.out HBG.out (by decide) (hs ▸ hi))
      have HO := Lib.hid ho6
      clear ho6
      clear hst
      go_wp2_with (at_builtin; go_must (refine wpList_append_any _ rfl (.tmp 13) (.tmp 16) _ rfl w.heap.size 45 i0 _ 2 32 Try.underlying22 hi0 hz0 hz1 hz2 rfl (by decide) (.slice A k c) k (FS ts) rfl (HO6.out.alloc _) (w6.heap.size + 1) (some ⟨w6.heap.size, 0, none⟩) 1 1 [.int .i64 x.locals, .slice A6 x.code.length c6] rfl (reads_new2 w6 (.int .i64 x.locals) (.slice A6 x.code.length c6) _) (by intro u hu; simp at hu; first | (subst hu; rfl) | (rcases hu with rfl | rfl <;> rfl)) ?c1 ?c2 ?c3 ?k))
      case c1 => unfold maxLen; omega
      case c2 => omega
      case c3 => simp; omega
      case k =>
      intro v3 w3 hown3 hg3 hat3
      have hfr3 : Fr (fun i => i = g) w w3 := ((HFR.out.trans HST.out.2 (fun _ _ h => h)).alloc _).grow (HO6.out.alloc _) hg3
      have hrd3 : Rd w3 base g v bs s3.1 s3.2 := (HST.out.1.alloc _).grown (HO6.out.alloc _) (by decide) (by decide) hg3
      have HRW : Hid (RwF w3 w.heap.size v3 (l ++ [x])) := by
        show RwF w3 w.heap.size v3 (l ++ [x])
        refine ⟨ts ++ [⟨x, A6, c6⟩], by rw [List.map_append, HTS.out]; rfl, by simpa [FS, flat2, TF.cells, TF.val, HLEN.out] using hown3, fun t ht => ?_⟩
        have hin : ∀ (B2 : Nat) (t : TF), w.heap.size ≤ B2 → w6.ownsRow B2 47 2 t.val t.f.code.length (CS t.f.code) → w3.ownsRow w.heap.size 47 2 t.val t.f.code.length (CS t.f.code) := fun B2 t hB ho => 
          own_mono ((Fr.of_grown hg3).own (ho.alloc _) (fun i hi hs => own_ne ho HO6.out (by decide) i hi hs)) hB
        rcases List.mem_append.1 ht with ht | ht
        · exact hin _ t (Nat.le_refl _) (HST.out.2.own (HALL.out t ht) (fun i hi hs => own_blk_ne (HALL.out t ht) HBG.out (by decide) (hs ▸ hi)))
        · simp at ht
          subst ht
          exact hin _ _ hz HO.out
      have HFR3 := Lib.hid hfr3
      have HRD3 := Lib.hid hrd3
      clear hfr3 hrd3 hown3 hg3 hat3
      go_wp2_with fail
      exact ⟨⟨k + 1, by omega, by go_num, by rw [HNX.out]; exact HRW.out, by rw [HNX.out]; exact HRD3.out, HFR3.out⟩, by simp [intOf]; omega⟩
    · obtain rfl : k = n := by omega
      obtain ⟨A, c, rfl⟩ := RwF_slice hrow
      have HROW := Lib.hid hrow
      have HRD := Lib.hid hrd
      have HFR := Lib.hid hfr
      clear hrow hrd hfr hlen
      generalize hit : iterP (funcP bs) k s1 = it at HROW HRD
      have HIT := Lib.hid hit
      clear hit
      go_wp2_with fail
      go_ret
      rw [HIT.out]
      exact ⟨A, c, rfl, HROW.out, HRD.out, HFR.out⟩
end Go.Proofs.Ytmjbfobjndiecaa
