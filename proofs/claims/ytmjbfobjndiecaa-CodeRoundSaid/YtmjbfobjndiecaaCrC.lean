
/-
  The program's reading of an instruction, of a row of numbers, of a function.
-/
import Derived.Test.YtmjbfobjndiecaaCrB
set_option linter.unusedVariables false
set_option linter.unusedSimpArgs false
namespace Go.Proofs.Ytmjbfobjndiecaa
open Go.RowKit Plain

theorem fx_small {bs : List Nat} (hx : ∀ x ∈ bs, x < 256) (s : Sx) : 0 ≤ (stP fx bs s).1 ∧ (stP fx bs s).1 ≤ 255 := by
  unfold stP orZ
  simp only
  split
  · unfold fx
    split
    · simp
    · have := leV_lt ((bs.drop s.1).take 1) (fun x h => hx x (List.mem_of_mem_drop (List.mem_of_mem_take h)))
      have h1 : ((bs.drop s.1).take 1).length ≤ 1 := by simp; omega
      have h2 : 256 ^ ((bs.drop s.1).take 1).length ≤ 256 ^ 1 := Nat.pow_le_pow_right (by omega) h1
      simp only
      omega
  · omega
theorem RdStep.trans {base g : Nat} {v : Value} {bs : List Nat} {p q : Nat × Int} {w w1 w2 : World} (h : RdStep base g v bs p w w1) (h2 : RdStep base g v bs q w1 w2) : RdStep base g v bs q w w2 := ⟨h2.1, h.2.trans h2.2 (fun _ _ h => h)⟩
theorem RdStep.alloc_l {base g : Nat} {v : Value} {bs : List Nat} {p : Nat × Int} {w w1 : World} {o : Obj} (h : RdStep base g v bs p (w.alloc o) w1) : RdStep base g v bs p w w1 := ⟨h.1, ((Fr.refl (fun i => i = g) w).alloc o).trans h.2 (fun _ _ h => h)⟩
theorem RdStep.set {base g : Nat} {v : Value} {bs : List Nat} {p : Nat × Int} {w w1 : World} {b : Nat} {T : TypeId} {cs : Array Value} (h : RdStep base g v bs p w w1) (hb : Blk w1 b T cs) (hT : 110 ≠ T) (hT' : 5 ≠ T) (hw : w.heap.size ≤ b) (i : Nat) (u : Value) : RdStep base g v bs p w (w1.setCell ⟨b, i, none⟩ u) :=
  ⟨h.1.fr ((Fr.refl (fun j => j = b) w1).setCell (p := ⟨b, i, none⟩) (.inl rfl) u) (Blk.ne_ h.1.1 hb hT) (fun i hi hs => own_blk_ne h.1.2.1 hb hT' (hs ▸ hi)), h.2.setCell (.inr hw) u⟩
theorem RdStep.set2 {base g : Nat} {v : Value} {bs : List Nat} {p : Nat × Int} {w w1 : World} {b : Nat} {T : TypeId} {cs : Array Value} (h : RdStep base g v bs p w w1) (hb : Blk w1 b T cs) (hT : 110 ≠ T) (hT' : 5 ≠ T) (hw : w.heap.size ≤ b) (u u' : Value) : RdStep base g v bs p w ((w1.setCell ⟨b, 0, none⟩ u).setCell ⟨b, 1, none⟩ u') :=
  (h.set hb hT hT' hw 0 u).set (hb.set_ 0 u) hT hT' hw 1 u'
theorem own_set2 {w : World} {base size n b : Nat} {T e : TypeId} {cs : Array Value} {v : Value} {xs : List Value} (ho : w.ownsRow base e size v n xs) (hb : Blk w b T cs) (hT : e ≠ T) (u u' : Value) : ((w.setCell ⟨b, 0, none⟩ u).setCell ⟨b, 1, none⟩ u').ownsRow base e size v n xs :=
  (((Fr.refl (fun j => j = b) w).setCell (p := ⟨b, 0, none⟩) (.inl rfl) u).setCell (p := ⟨b, 1, none⟩) (.inl rfl) u').own ho (fun i hi hs => own_blk_ne ho hb hT (hs ▸ hi))
theorem Fr.of_eq {S : Nat → Prop} {w w1 : World} (h : w = w1) : Fr S w w1 := h ▸ Fr.refl S w

set_option maxHeartbeats 4000000 in
set_option maxRecDepth 100000 in
theorem readInstr (base g cb : Nat) (v : Value) (bs : List Nat) (s : Sx) (w : World) (hR : Rd w base g v bs s.1 s.2) (hb : Blk w cb 72 #[.pointer (some ⟨g, 0, none⟩)]) (hx : ∀ x ∈ bs, x < 256) (hn : bs.length ≤ 140737488355328) :
    Calls Try.prog 77 #[.pointer (some ⟨cb, 0, none⟩)] w fun en w' => ∃ val, en = .returned val ∧ ElN w' w.heap.size val (instrP bs s).1 ∧ RdStep base g v bs (instrP bs s).2 w w' := by
  have hcg : cb ≠ g := Blk.ne_ hb hR.1 (by decide)
  obtain ⟨a, e⟩ := s
  simp only at hR
  have hat := hR.2.2
  have hf0 := fx_small hx (a, e)
  have hle := stP_le goes_fx hx (s := (a, e)) hat
  have h1 := (told_fixed bs bs.length a none e base g v 0 hx (Nat.le_refl _) hn hat).2
  have h2 := (told_signed bs bs.length (stP fx bs (a, e)).2.1 none (stP fx bs (a, e)).2.2 base g v 0 hx (Nat.le_refl _) hn hle).2
  unfold instrP
  generalize stP fx bs (a, e) = q at *
  obtain ⟨x, s1⟩ := q
  obtain ⟨a1, e1⟩ := s1
  simp only at *
  generalize stP sg bs (a1, e1) = q2 at *
  obtain ⟨y, s2⟩ := q2
  simp only at *
  obtain ⟨hx0, hx1⟩ := hf0
  have H1 := Lib.hid h1; have H2 := Lib.hid h2; have HR := Lib.hid hR; have HB := Lib.hid hb
  clear h1 h2 hR hb hat hle hx
  go_enter Try.func77, Try.ntmps77
  have hcz : cb < w.heap.size := HB.out.lt
  have c0 : w.cell? ⟨cb, 0, none⟩ = some (.pointer (some ⟨g, 0, none⟩)) := (HB.out.cell 0).trans rfl
  go_wp2_with fail
  refine (H1.out _ (HR.out.alloc _)).mono ?_
  rintro en w1 ⟨rfl, hr1, hf1⟩
  simp only at hr1
  have c1 : w1.cell? ⟨cb, 0, none⟩ = some (.pointer (some ⟨g, 0, none⟩)) := ((hf1.blk (HB.out.alloc _) hcg).cell 0).trans rfl
  have hbk : Blk w1 w.heap.size 47 #[.int .i64 0, .int .i64 0] := hf1.blk (Blk.new w _ _) (by have := HR.out.lt; omega)
  have HBK := Lib.hid hbk; have HR1 := Lib.hid hr1; have HF1 := Lib.hid hf1
  clear hbk hr1 hf1 c0
  go_wp2_with fail
  refine (H2.out _ HR1.out).mono ?_
  rintro en w2 ⟨rfl, hr2, hf2⟩
  simp only at hr2
  have hbk2 := hf2.blk HBK.out (by have := HR.out.lt; omega)
  have hz2 : w.heap.size < w2.heap.size := hbk2.lt
  have e0 := hbk2.frozen 0
  have e1 := hbk2.frozen 1
  have d0 := (hbk2.cell 0).trans rfl
  have d1 := (hbk2.cell 1).trans rfl
  have HBK2 := Lib.hid hbk2; have HR2 := Lib.hid hr2; have HF2 := Lib.hid hf2
  clear hbk2 hr2 hf2 c1
  go_wp2_with fail
  refine bodyPost_ret (v := .agg #[.int .i64 x, .int .i64 y]) (by simp [results, Try.results77, go_sem, d0, d1, e0, e1, hz2]) rfl ⟨_, rfl, rfl, ?_⟩
  exact RdStep.set2 ⟨HR2.out, (((Fr.refl (fun i => i = g) w).alloc _).trans HF1.out (fun _ _ h => h)).trans HF2.out (fun _ _ h => h)⟩ HBK2.out (by decide) (by decide) (Nat.le_refl _) _ _

set_option maxHeartbeats 4000000 in
theorem readIntsF (base g cb : Nat) (v : Value) (bs : List Nat) (s : Sx) (w : World) (hR : Rd w base g v bs s.1 s.2) (hb : Blk w cb 72 #[.pointer (some ⟨g, 0, none⟩)]) (hx : ∀ x ∈ bs, x < 256) (hn : bs.length ≤ 140737488355328) :
    Calls Try.prog 49 #[.pointer (some ⟨cb, 0, none⟩)] w fun en w' => ∃ val, en = .returned val ∧ ElL w' w.heap.size val (intsP bs s).1 ∧ RdStep base g v bs (intsP bs s).2 w w' := by
  have c0 : w.cell? ⟨cb, 0, none⟩ = some (.pointer (some ⟨g, 0, none⟩)) := (hb.cell 0).trans rfl
  have h1 := readListI base g 8 v bs s w hR hx hn (by omega) (fun W s' hf hr => ((told_short bs bs.length s'.1 none s'.2 base g v 0 hx (Nat.le_refl _) hn hr.2.2).2 W hr).mono fun en w' h => ⟨_, h.1, rfl, h.2⟩)
  have H1 := Lib.hid h1
  clear h1 hR hb
  go_enter Try.func49, Try.ntmps49
  go_wp2_with fail
  refine H1.out.mono ?_
  rintro en w1 ⟨A, c, rfl, hrw, hst⟩
  have HRW := Lib.hid hrw; have HST := Lib.hid hst
  clear hrw hst c0
  go_wp2_with fail
  go_ret
  exact ⟨_, rfl, ⟨A, c, rfl, HRW.out⟩, HST.out⟩

set_option maxHeartbeats 4000000 in
theorem readFunc_ (base g : Nat) (v : Value) (bs : List Nat) (s : Sx) (w : World) (hR : Rd w base g v bs s.1 s.2) (hx : ∀ x ∈ bs, x < 256) (hn : bs.length ≤ 140737488355328) :
    Calls Try.prog 45 #[.pointer (some ⟨g, 0, none⟩)] w fun en w' => ∃ val, en = .returned val ∧ ElF w' w.heap.size val (funcP bs s).1 ∧ RdStep base g v bs (funcP bs s).2 w w' := by
  obtain ⟨a, e⟩ := s
  simp only at hR
  have hat := hR.2.2
  have hfit := stP_fit goes_sh hx (a, e)
  have h1 := (told_short bs bs.length a none e base g v 0 hx (Nat.le_refl _) hn hat).2
  unfold funcP
  generalize stP sh bs (a, e) = q at *
  obtain ⟨x, s1⟩ := q
  simp only at *
  have h2 : ∀ W cb, Rd W base g v bs s1.1 s1.2 → Blk W cb 72 #[.pointer (some ⟨g, 0, none⟩)] → _ := fun W cb hr hb => readListN base g 64 cb v bs s1 W hr hx hn (by omega) (fun W' s' hf hr' => readInstr base g cb v bs s' W' hr' (hf.blk hb (Blk.ne_ hb hr.1 (by decide))) hx hn)
  generalize listP (instrP bs) 64 bs s1 = q2 at *
  obtain ⟨l, s2⟩ := q2
  simp only at *
  have H1 := Lib.hid h1; have H2 := Lib.hid h2; have HR := Lib.hid hR
  clear h1 h2 hR hat hx
  have hgz : g < w.heap.size := HR.out.lt
  go_enter Try.func45, Try.ntmps45
  go_wp2_with fail
  refine (H1.out _ ((HR.out.alloc _).alloc _)).mono ?_
  rintro en w1 ⟨rfl, hr1, hf1⟩
  simp only at hr1
  have hbk0 : Blk w1 w.heap.size 72 #[.pointer (some ⟨g, 0, none⟩)] := hf1.blk ((Blk.new w _ _).alloc _) (by omega)
  have hbk1 : Blk w1 (w.heap.size + 1) 45 #[.int .i64 0, .slice none 0 0] := hf1.blk (by simpa using Blk.new (w.alloc (.cells #[.pointer (some ⟨g, 0, none⟩)] 72)) _ _) (by omega)
  have c1 := (hbk0.cell 0).trans rfl
  have hz1 := hbk1.lt
  have HK0 := Lib.hid hbk0; have HK1 := Lib.hid hbk1; have HR1 := Lib.hid hr1; have HF1 := Lib.hid hf1
  clear hbk0 hbk1 hr1 hf1
  go_wp2_with fail
  refine (H2.out w1 _ HR1.out HK0.out).mono ?_
  rintro en w2 ⟨A, c, rfl, hrw, hst⟩
  have hbk2 := hst.2.blk HK1.out (by omega)
  have hz2 : w.heap.size + 1 < w2.heap.size := hbk2.lt
  have e0 := hbk2.frozen 0
  have e1 := hbk2.frozen 1
  have d0 := (hbk2.cell 0).trans rfl
  have d1 := (hbk2.cell 1).trans rfl
  have HB2 := Lib.hid hbk2; have HRW := Lib.hid hrw; have HST := Lib.hid hst
  clear hbk2 hrw hst c1
  go_wp2_with fail
  refine bodyPost_ret (v := .agg #[.int .i64 x, .slice A l.length c]) (by simp [results, Try.results45, go_sem, d0, d1, e0, e1, hz2]) rfl ⟨_, rfl, ⟨A, c, rfl, ?_⟩, ?_⟩
  · exact own_set2 (own_mono HRW.out (by omega)) HB2.out (by decide) _ _
  · exact RdStep.set2 ⟨HST.out.1, ((((Fr.refl (fun i => i = g) w).alloc _).alloc _).trans HF1.out (fun _ _ h => h)).trans HST.out.2 (fun _ _ h => h)⟩ HB2.out (by decide) (by decide) (by omega) _ _

set_option maxHeartbeats 4000000 in
theorem readFuncF (base g cb : Nat) (v : Value) (bs : List Nat) (s : Sx) (w : World) (hR : Rd w base g v bs s.1 s.2) (hb : Blk w cb 72 #[.pointer (some ⟨g, 0, none⟩)]) (hx : ∀ x ∈ bs, x < 256) (hn : bs.length ≤ 140737488355328) :
    Calls Try.prog 44 #[.pointer (some ⟨cb, 0, none⟩)] w fun en w' => ∃ val, en = .returned val ∧ ElF w' w.heap.size val (funcP bs s).1 ∧ RdStep base g v bs (funcP bs s).2 w w' := by
  have c0 : w.cell? ⟨cb, 0, none⟩ = some (.pointer (some ⟨g, 0, none⟩)) := (hb.cell 0).trans rfl
  have hcz := hb.lt
  have H1 := Lib.hid (fun W hr => readFunc_ base g v bs s W hr hx hn)
  generalize funcP bs s = q at *
  obtain ⟨f, s2⟩ := q
  have HR := Lib.hid hR
  have hgz : g < w.heap.size := hR.lt
  clear hR hb
  go_enter Try.func44, Try.ntmps44
  go_wp2_with fail
  refine (H1.out _ (HR.out.alloc _)).mono ?_
  rintro en w1 ⟨val, rfl, ⟨A, c, rfl, ho⟩, hst⟩
  have hbk := hst.2.blk (Blk.new w 45 _) (by omega)
  have hz1 := hbk.lt
  have e0 := hbk.frozen 0
  have e1 := hbk.frozen 1
  have d0 := (hbk.cell 0).trans rfl
  have d1 := (hbk.cell 1).trans rfl
  have HB2 := Lib.hid hbk; have HRW := Lib.hid ho; have HST := Lib.hid hst
  clear hbk ho hst c0
  go_wp2_with fail
  refine bodyPost_ret (v := .agg #[.int .i64 f.locals, .slice A f.code.length c]) (by simp [results, Try.results44, go_sem, d0, d1, e0, e1, hz1]) rfl ⟨_, rfl, ⟨A, c, rfl, ?_⟩, ?_⟩
  · exact own_set2 (own_mono HRW.out (by simp)) HB2.out (by decide) _ _
  · exact RdStep.set2 HST.out.alloc_l HB2.out (by decide) (by decide) (Nat.le_refl _) _ _
end Go.Proofs.Ytmjbfobjndiecaa
