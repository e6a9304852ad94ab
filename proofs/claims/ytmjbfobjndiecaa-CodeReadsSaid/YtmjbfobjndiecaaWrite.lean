
/-
  What the program writes of a program that may be, and of one that may not.
-/
import Derived.Test.YtmjbfobjndiecaaMyD
import Derived.Test.YtmjbfobjndiecaaPutB
set_option linter.unusedVariables false
set_option linter.unusedSimpArgs false
namespace Go.Proofs.Ytmjbfobjndiecaa
open Go.RowKit Plain

/-- What may be is such as may be written. -/
structure Puts (p : PV) : Prop where
  funcs : p.funcs.length ≤ 1000 ∧ ∀ f ∈ p.funcs, PutF f
  mutexes : p.mutexes ≤ 9223372036854775807
  conds : p.conds.length ≤ 1000 ∧ ∀ x ∈ p.conds, x ≤ 9223372036854775807
  semas : p.semas.length ≤ 1000 ∧ ∀ x ∈ p.semas, x ≤ 9223372036854775807
  chans : p.chans.length ≤ 1000 ∧ ∀ x ∈ p.chans, x ≤ 9223372036854775807
  choices : p.choices.length ≤ 1000 ∧ ∀ l ∈ p.choices, l.length ≤ 1000 ∧ ∀ x ∈ l, x ≤ 9223372036854775807
  threads : p.threads ≤ 9223372036854775807
theorem list_le {l : List Int} {m : Int} (h : listB l m = true) (hm : m ≤ 1000) : l.length ≤ 1000 ∧ ∀ x ∈ l, x ≤ 9223372036854775807 := by
  simp only [listB, belowB, Bool.and_eq_true, decide_eq_true_eq, List.all_eq_true] at h
  exact ⟨by omega, fun x hx => by have := h.2 x hx; omega⟩
theorem most_le8 (p : PV) (f : FV) (op : Int) (h1 : p.funcs.length ≤ 16) (h2 : p.mutexes ≤ 8) (h3 : p.conds.length ≤ 8) (h4 : p.semas.length ≤ 8) (h5 : p.chans.length ≤ 8) (h6 : p.choices.length ≤ 8) (h7 : f.locals ≤ 8) (h8 : f.code.length ≤ 64) : most p f op ≤ 1073741825 := by
  unfold most
  repeat' split
  all_goals omega
theorem puts_of (p : PV) (h : mayC p = true) : Puts p := by
  simp only [mayC, Bool.and_eq_true] at h
  obtain ⟨⟨⟨⟨⟨⟨⟨a0, a1⟩, a2⟩, a3⟩, a4⟩, a5⟩, a6⟩, a7⟩ := h
  have b0 : p.funcs.length ≤ 16 := by simp only [withinB, Bool.and_eq_true, decide_eq_true_eq] at a0; omega
  have b1 : p.mutexes ≤ 8 := by simp only [withinB, Bool.and_eq_true, decide_eq_true_eq] at a1; omega
  have b6 : p.threads ≤ 32 := by simp only [withinB, Bool.and_eq_true, decide_eq_true_eq] at a6; omega
  have l2 : p.conds.length ≤ 8 := by simp only [listB, Bool.and_eq_true, decide_eq_true_eq] at a2; omega
  have l3 : p.semas.length ≤ 8 := by simp only [listB, Bool.and_eq_true, decide_eq_true_eq] at a3; omega
  have l4 : p.chans.length ≤ 8 := by simp only [listB, Bool.and_eq_true, decide_eq_true_eq] at a4; omega
  have l5 : p.choices.length ≤ 8 := by simp only [choicesB, Bool.and_eq_true, decide_eq_true_eq] at a5; omega
  refine ⟨⟨by omega, fun f hf => ?_⟩, by omega, list_le a2 (by omega), list_le a3 (by omega), list_le a4 (by omega), ⟨by omega, fun l hl => ?_⟩, by omega⟩
  · have hc := List.all_eq_true.1 a7 f hf
    simp only [funcC, Bool.and_eq_true, decide_eq_true_eq, withinB] at hc
    refine ⟨by omega, by omega, fun i hi => ?_⟩
    have hr := List.all_eq_true.1 hc.2 i hi
    have hm := most_le8 p f i.op b0 b1 l2 l3 l4 l5 (by omega) hc.1.2
    simp only [ruleB, withinB, belowB, Bool.and_eq_true, decide_eq_true_eq] at hr
    obtain ⟨hr1, hr2⟩ := hr
    refine ⟨by omega, ?_⟩
    split at hr2
    · simp only [Bool.and_eq_true, decide_eq_true_eq] at hr2; omega
    · split at hr2
      · simp only [Bool.and_eq_true, decide_eq_true_eq] at hr2; omega
      · simp only [Bool.and_eq_true, decide_eq_true_eq] at hr2; omega
  · simp only [choicesB, Bool.and_eq_true] at a5
    have hc := List.all_eq_true.1 a5.2 l hl
    simp only [choiceC, Bool.and_eq_true] at hc
    exact list_le hc.1.2 (by omega)

theorem funcsL_len (l : List FV) (h : l.length ≤ 1000) (hf : ∀ f ∈ l, PutF f) : (funcsL l).length ≤ 10018009 := by
  have h1 := shortN_len (n := l.length) (by omega)
  have h2 := flatMap_len l funcL 10018 (fun x hx => funcL_len x (hf x hx).2.1 (hf x hx).1)
  simp only [funcsL, List.length_append]
  omega
theorem listsL_len (l : List (List Int)) (h : l.length ≤ 1000) (hf : ∀ x ∈ l, x.length ≤ 1000 ∧ ∀ y ∈ x, y ≤ 9223372036854775807) : (listsL l).length ≤ 9009009 := by
  have h1 := shortN_len (n := l.length) (by omega)
  have h2 := flatMap_len l listL 9009 (fun x hx => listL_len x (hf x hx).1 (hf x hx).2)
  simp only [listsL, List.length_append]
  omega

def Wrote (w : World) (p : PV) (e : Ending) (w' : World) : Prop :=
  ∃ A c, e = .returned (.tuple #[.slice A (progL p).length c, .int .i64 0]) ∧ w'.ownsRow w.heap.size 5 1 (.slice A (progL p).length c) (progL p).length (BS (progL p)) ∧ Below w.heap.size w w'

set_option maxHeartbeats 4000000 in
set_option maxRecDepth 100000 in
theorem write_yes (h : PH) (p : PV) (w : World) (B : Nat) (hr : RP w B h p) (hB : B ≤ w.heap.size) (hlen : Lens p) (hm : mayC p = true) :
    Calls Try.prog 9 #[.agg #[.slice h.fA p.funcs.length h.fc, .int .i64 p.mutexes, .slice h.cA p.conds.length h.cc, .slice h.sA p.semas.length h.sc, .slice h.hA p.chans.length h.hc, .slice h.xA p.choices.length h.xc, .int .i64 p.threads]] w (Wrote w p) := by
  have hp := puts_of p hm
  have HR := Lib.hid hr; have HL := Lib.hid hlen; have HM := Lib.hid hm; have HP := Lib.hid hp
  clear hr hlen hm hp
  go_enter Try.func9, Try.ntmps9
  go_wp2_with fail
  refine (mayC_yes h p _ B (HR.out.alloc hB _) (by simp; omega) HL.out HM.out).mono ?_
  rintro e w1 ⟨rfl, hb⟩
  have hpb : Blk w1 w.heap.size 26 (PC h p) := (Blk.new w _ _).below hb (by simp)
  have hb1 : Below w.heap.size w w1 := ((Below.refl _ _).alloc (Nat.le_refl _) _).trans (hb.mono (by simp))
  have z1 : w.heap.size + 1 ≤ w1.heap.size := by have := hb.size; simpa using this
  have hrp : RP w1 B h p := HR.out.below (hb1.mono hB)
  have HB1 := Lib.hid hb1; have HPB := Lib.hid hpb; have HRP := Lib.hid hrp
  have HW0 := Lib.hid (Wr.new w1 w1.heap.size)
  clear hb hpb hb1 hrp
  obtain ⟨fA, fc, cA, cc, sA, sc, hA, hc, xA, xc⟩ := h
  have KS : Hid (∀ X, Below w1.heap.size w1 X → X.cell? ⟨w.heap.size, 0, none⟩ = some (.slice fA p.funcs.length fc) ∧ X.cell? ⟨w.heap.size, 1, none⟩ = some (.int .i64 p.mutexes) ∧ X.cell? ⟨w.heap.size, 2, none⟩ = some (.slice cA p.conds.length cc) ∧ X.cell? ⟨w.heap.size, 3, none⟩ = some (.slice sA p.semas.length sc) ∧ X.cell? ⟨w.heap.size, 4, none⟩ = some (.slice hA p.chans.length hc) ∧ X.cell? ⟨w.heap.size, 5, none⟩ = some (.slice xA p.choices.length xc) ∧ X.cell? ⟨w.heap.size, 6, none⟩ = some (.int .i64 p.threads)) := by
    intro X hX
    exact ⟨(hX.cell (p := ⟨w.heap.size, 0, none⟩) (show w.heap.size < w1.heap.size by omega)).trans ((HPB.out.cell 0).trans rfl), (hX.cell (p := ⟨w.heap.size, 1, none⟩) (show w.heap.size < w1.heap.size by omega)).trans ((HPB.out.cell 1).trans rfl), (hX.cell (p := ⟨w.heap.size, 2, none⟩) (show w.heap.size < w1.heap.size by omega)).trans ((HPB.out.cell 2).trans rfl), (hX.cell (p := ⟨w.heap.size, 3, none⟩) (show w.heap.size < w1.heap.size by omega)).trans ((HPB.out.cell 3).trans rfl), (hX.cell (p := ⟨w.heap.size, 4, none⟩) (show w.heap.size < w1.heap.size by omega)).trans ((HPB.out.cell 4).trans rfl), (hX.cell (p := ⟨w.heap.size, 5, none⟩) (show w.heap.size < w1.heap.size by omega)).trans ((HPB.out.cell 5).trans rfl), (hX.cell (p := ⟨w.heap.size, 6, none⟩) (show w.heap.size < w1.heap.size by omega)).trans ((HPB.out.cell 6).trans rfl)⟩
  have hba : Below w1.heap.size w1 (w1.alloc (.cells #[.slice none 0 0] 55)) := (Below.refl _ _).alloc (Nat.le_refl _) _
  obtain ⟨p0, p1, p2, p3, p4, p5, p6⟩ := KS.out _ hba
  have HBA := Lib.hid hba
  have HS0 : Hid (WStep w1.heap.size w1.heap.size (.slice none 0 0) [] (w1.alloc (.cells #[.slice none 0 0] 55)) (w1.alloc (.cells #[.slice none 0 0] 55))) := WStep.refl HW0.out
  go_wp2_with fail
  clear p0 p1 p2 p3 p4 p5 p6
  obtain ⟨W0, hW0⟩ : ∃ W, W = w1.alloc (.cells #[.slice none 0 0] 55) := ⟨_, rfl⟩
  have z0 : w1.heap.size < W0.heap.size := by rw [hW0]; simp
  rw [← hW0] at HS0 HBA HW0 ⊢
  clear hba hW0
  obtain ⟨v0, hw0, hf0, ho0⟩ := HS0.out
  have hq0 : Below w1.heap.size w1 W0 := HBA.out
  have zq0 := hq0.size
  have HWk0 := Lib.hid hw0; have HFk0 := Lib.hid hf0; have HOk0 := Lib.hid ho0; have HQk0 := Lib.hid hq0
  clear hw0 hf0 ho0 hq0
  refine (putFuncs_any w1.heap.size w1.heap.size v0 _ W0 HWk0.out (Nat.le_refl _) (by omega) p.funcs B _ _ _ (HRP.out.below (HQk0.out.mono (by omega))).funcs (by omega) (by have := HP.out.funcs.1; omega) HP.out.funcs.2 (by simp)).mono ?_
  rintro e u1 ⟨rfl, hs⟩
  have hs2 := WStep.trans HFk0.out HOk0.out hs
  have HS1 : Hid (WStep w1.heap.size w1.heap.size (.slice none 0 0) (([] ++ funcsL p.funcs)) W0 u1) := hs2
  have HLN1 : Hid ((([] ++ funcsL p.funcs)).length ≤ 30000000) := by
    show _ ≤ _
    simp only [List.length_append, List.length_nil]
    have a0 := funcsL_len p.funcs HP.out.funcs.1 HP.out.funcs.2
    omega
  obtain ⟨p0, p1, p2, p3, p4, p5, p6⟩ := KS.out u1 (HBA.out.trans (WStep.below HW0.out (Nat.le_refl _) HS1.out))
  clear hs hs2
  go_wp2_with fail
  obtain ⟨v1, hw1, hf1, ho1⟩ := HS1.out
  have hq1 : Below w1.heap.size w1 u1 := HBA.out.trans (WStep.below HW0.out (Nat.le_refl _) HS1.out)
  have zq1 := hq1.size
  have HWk1 := Lib.hid hw1; have HFk1 := Lib.hid hf1; have HOk1 := Lib.hid ho1; have HQk1 := Lib.hid hq1
  clear hw1 hf1 ho1 hq1
  refine (short_any w1.heap.size w1.heap.size v1 _ p.mutexes u1 HWk1.out HP.out.mutexes (by first | (simp; done) | (have := HLN1.out; omega)) (by omega)).mono ?_
  rintro e u2 ⟨rfl, hs⟩
  have hs2 := WStep.trans HFk1.out HOk1.out hs
  have HS2 : Hid (WStep w1.heap.size w1.heap.size (.slice none 0 0) ((([] ++ funcsL p.funcs) ++ shortL p.mutexes.toNat)) W0 u2) := hs2
  have HLN2 : Hid (((([] ++ funcsL p.funcs) ++ shortL p.mutexes.toNat)).length ≤ 30000000) := by
    show _ ≤ _
    simp only [List.length_append, List.length_nil]
    have a0 := funcsL_len p.funcs HP.out.funcs.1 HP.out.funcs.2
    have amutexes := shortI_len HP.out.mutexes
    omega
  obtain ⟨p0, p1, p2, p3, p4, p5, p6⟩ := KS.out u2 (HBA.out.trans (WStep.below HW0.out (Nat.le_refl _) HS2.out))
  clear hs hs2
  go_wp2_with fail
  obtain ⟨v2, hw2, hf2, ho2⟩ := HS2.out
  have hq2 : Below w1.heap.size w1 u2 := HBA.out.trans (WStep.below HW0.out (Nat.le_refl _) HS2.out)
  have zq2 := hq2.size
  have HWk2 := Lib.hid hw2; have HFk2 := Lib.hid hf2; have HOk2 := Lib.hid ho2; have HQk2 := Lib.hid hq2
  clear hw2 hf2 ho2 hq2
  refine (putInts_any w1.heap.size w1.heap.size v2 _ u2 HWk2.out (Nat.le_refl _) (by omega) p.conds B _ _ _ (HRP.out.below (HQk2.out.mono (by omega))).conds (by omega) (by have := HP.out.conds.1; omega) HP.out.conds.2 (by first | (simp; done) | (have := HLN2.out; omega))).mono ?_
  rintro e u3 ⟨rfl, hs⟩
  have hs2 := WStep.trans HFk2.out HOk2.out hs
  have HS3 : Hid (WStep w1.heap.size w1.heap.size (.slice none 0 0) (((([] ++ funcsL p.funcs) ++ shortL p.mutexes.toNat) ++ listL p.conds)) W0 u3) := hs2
  have HLN3 : Hid ((((([] ++ funcsL p.funcs) ++ shortL p.mutexes.toNat) ++ listL p.conds)).length ≤ 30000000) := by
    show _ ≤ _
    simp only [List.length_append, List.length_nil]
    have a0 := funcsL_len p.funcs HP.out.funcs.1 HP.out.funcs.2
    have amutexes := shortI_len HP.out.mutexes
    have aconds := listL_len p.conds HP.out.conds.1 HP.out.conds.2
    omega
  obtain ⟨p0, p1, p2, p3, p4, p5, p6⟩ := KS.out u3 (HBA.out.trans (WStep.below HW0.out (Nat.le_refl _) HS3.out))
  clear hs hs2
  go_wp2_with fail
  obtain ⟨v3, hw3, hf3, ho3⟩ := HS3.out
  have hq3 : Below w1.heap.size w1 u3 := HBA.out.trans (WStep.below HW0.out (Nat.le_refl _) HS3.out)
  have zq3 := hq3.size
  have HWk3 := Lib.hid hw3; have HFk3 := Lib.hid hf3; have HOk3 := Lib.hid ho3; have HQk3 := Lib.hid hq3
  clear hw3 hf3 ho3 hq3
  refine (putInts_any w1.heap.size w1.heap.size v3 _ u3 HWk3.out (Nat.le_refl _) (by omega) p.semas B _ _ _ (HRP.out.below (HQk3.out.mono (by omega))).semas (by omega) (by have := HP.out.semas.1; omega) HP.out.semas.2 (by first | (simp; done) | (have := HLN3.out; omega))).mono ?_
  rintro e u4 ⟨rfl, hs⟩
  have hs2 := WStep.trans HFk3.out HOk3.out hs
  have HS4 : Hid (WStep w1.heap.size w1.heap.size (.slice none 0 0) ((((([] ++ funcsL p.funcs) ++ shortL p.mutexes.toNat) ++ listL p.conds) ++ listL p.semas)) W0 u4) := hs2
  have HLN4 : Hid (((((([] ++ funcsL p.funcs) ++ shortL p.mutexes.toNat) ++ listL p.conds) ++ listL p.semas)).length ≤ 30000000) := by
    show _ ≤ _
    simp only [List.length_append, List.length_nil]
    have a0 := funcsL_len p.funcs HP.out.funcs.1 HP.out.funcs.2
    have amutexes := shortI_len HP.out.mutexes
    have aconds := listL_len p.conds HP.out.conds.1 HP.out.conds.2
    have asemas := listL_len p.semas HP.out.semas.1 HP.out.semas.2
    omega
  obtain ⟨p0, p1, p2, p3, p4, p5, p6⟩ := KS.out u4 (HBA.out.trans (WStep.below HW0.out (Nat.le_refl _) HS4.out))
  clear hs hs2
  go_wp2_with fail
  obtain ⟨v4, hw4, hf4, ho4⟩ := HS4.out
  have hq4 : Below w1.heap.size w1 u4 := HBA.out.trans (WStep.below HW0.out (Nat.le_refl _) HS4.out)
  have zq4 := hq4.size
  have HWk4 := Lib.hid hw4; have HFk4 := Lib.hid hf4; have HOk4 := Lib.hid ho4; have HQk4 := Lib.hid hq4
  clear hw4 hf4 ho4 hq4
  refine (putInts_any w1.heap.size w1.heap.size v4 _ u4 HWk4.out (Nat.le_refl _) (by omega) p.chans B _ _ _ (HRP.out.below (HQk4.out.mono (by omega))).chans (by omega) (by have := HP.out.chans.1; omega) HP.out.chans.2 (by first | (simp; done) | (have := HLN4.out; omega))).mono ?_
  rintro e u5 ⟨rfl, hs⟩
  have hs2 := WStep.trans HFk4.out HOk4.out hs
  have HS5 : Hid (WStep w1.heap.size w1.heap.size (.slice none 0 0) (((((([] ++ funcsL p.funcs) ++ shortL p.mutexes.toNat) ++ listL p.conds) ++ listL p.semas) ++ listL p.chans)) W0 u5) := hs2
  have HLN5 : Hid ((((((([] ++ funcsL p.funcs) ++ shortL p.mutexes.toNat) ++ listL p.conds) ++ listL p.semas) ++ listL p.chans)).length ≤ 30000000) := by
    show _ ≤ _
    simp only [List.length_append, List.length_nil]
    have a0 := funcsL_len p.funcs HP.out.funcs.1 HP.out.funcs.2
    have amutexes := shortI_len HP.out.mutexes
    have aconds := listL_len p.conds HP.out.conds.1 HP.out.conds.2
    have asemas := listL_len p.semas HP.out.semas.1 HP.out.semas.2
    have achans := listL_len p.chans HP.out.chans.1 HP.out.chans.2
    omega
  obtain ⟨p0, p1, p2, p3, p4, p5, p6⟩ := KS.out u5 (HBA.out.trans (WStep.below HW0.out (Nat.le_refl _) HS5.out))
  clear hs hs2
  go_wp2_with fail
  obtain ⟨v5, hw5, hf5, ho5⟩ := HS5.out
  have hq5 : Below w1.heap.size w1 u5 := HBA.out.trans (WStep.below HW0.out (Nat.le_refl _) HS5.out)
  have zq5 := hq5.size
  have HWk5 := Lib.hid hw5; have HFk5 := Lib.hid hf5; have HOk5 := Lib.hid ho5; have HQk5 := Lib.hid hq5
  clear hw5 hf5 ho5 hq5
  refine (putLists_any w1.heap.size w1.heap.size v5 _ u5 HWk5.out (Nat.le_refl _) (by omega) p.choices B _ _ _ (HRP.out.below (HQk5.out.mono (by omega))).choices (by omega) (by have := HP.out.choices.1; omega) HP.out.choices.2 (by first | (simp; done) | (have := HLN5.out; omega))).mono ?_
  rintro e u6 ⟨rfl, hs⟩
  have hs2 := WStep.trans HFk5.out HOk5.out hs
  have HS6 : Hid (WStep w1.heap.size w1.heap.size (.slice none 0 0) ((((((([] ++ funcsL p.funcs) ++ shortL p.mutexes.toNat) ++ listL p.conds) ++ listL p.semas) ++ listL p.chans) ++ listsL p.choices)) W0 u6) := hs2
  have HLN6 : Hid (((((((([] ++ funcsL p.funcs) ++ shortL p.mutexes.toNat) ++ listL p.conds) ++ listL p.semas) ++ listL p.chans) ++ listsL p.choices)).length ≤ 30000000) := by
    show _ ≤ _
    simp only [List.length_append, List.length_nil]
    have a0 := funcsL_len p.funcs HP.out.funcs.1 HP.out.funcs.2
    have amutexes := shortI_len HP.out.mutexes
    have aconds := listL_len p.conds HP.out.conds.1 HP.out.conds.2
    have asemas := listL_len p.semas HP.out.semas.1 HP.out.semas.2
    have achans := listL_len p.chans HP.out.chans.1 HP.out.chans.2
    have a5 := listsL_len p.choices HP.out.choices.1 HP.out.choices.2
    omega
  obtain ⟨p0, p1, p2, p3, p4, p5, p6⟩ := KS.out u6 (HBA.out.trans (WStep.below HW0.out (Nat.le_refl _) HS6.out))
  clear hs hs2
  go_wp2_with fail
  obtain ⟨v6, hw6, hf6, ho6⟩ := HS6.out
  have hq6 : Below w1.heap.size w1 u6 := HBA.out.trans (WStep.below HW0.out (Nat.le_refl _) HS6.out)
  have zq6 := hq6.size
  have HWk6 := Lib.hid hw6; have HFk6 := Lib.hid hf6; have HOk6 := Lib.hid ho6; have HQk6 := Lib.hid hq6
  clear hw6 hf6 ho6 hq6
  refine (short_any w1.heap.size w1.heap.size v6 _ p.threads u6 HWk6.out HP.out.threads (by first | (simp; done) | (have := HLN6.out; omega)) (by omega)).mono ?_
  rintro e u7 ⟨rfl, hs⟩
  have hs2 := WStep.trans HFk6.out HOk6.out hs
  have HS7 : Hid (WStep w1.heap.size w1.heap.size (.slice none 0 0) (((((((([] ++ funcsL p.funcs) ++ shortL p.mutexes.toNat) ++ listL p.conds) ++ listL p.semas) ++ listL p.chans) ++ listsL p.choices) ++ shortL p.threads.toNat)) W0 u7) := hs2
  have HLN7 : Hid ((((((((([] ++ funcsL p.funcs) ++ shortL p.mutexes.toNat) ++ listL p.conds) ++ listL p.semas) ++ listL p.chans) ++ listsL p.choices) ++ shortL p.threads.toNat)).length ≤ 30000000) := by
    show _ ≤ _
    simp only [List.length_append, List.length_nil]
    have a0 := funcsL_len p.funcs HP.out.funcs.1 HP.out.funcs.2
    have amutexes := shortI_len HP.out.mutexes
    have aconds := listL_len p.conds HP.out.conds.1 HP.out.conds.2
    have asemas := listL_len p.semas HP.out.semas.1 HP.out.semas.2
    have achans := listL_len p.chans HP.out.chans.1 HP.out.chans.2
    have a5 := listsL_len p.choices HP.out.choices.1 HP.out.choices.2
    have athreads := shortI_len HP.out.threads
    omega
  obtain ⟨p0, p1, p2, p3, p4, p5, p6⟩ := KS.out u7 (HBA.out.trans (WStep.below HW0.out (Nat.le_refl _) HS7.out))
  clear hs hs2
  go_wp2_with fail
  obtain ⟨v7, hw7, hf7, ho7⟩ := HS7.out
  have hq7 : Below w1.heap.size w1 u7 := HBA.out.trans (WStep.below HW0.out (Nat.le_refl _) HS7.out)
  have HQ7 := Lib.hid hq7
  have zq7 := hq7.size
  have hbs : ((((((([] ++ funcsL p.funcs) ++ shortL p.mutexes.toNat) ++ listL p.conds) ++ listL p.semas) ++ listL p.chans) ++ listsL p.choices) ++ shortL p.threads.toNat) = progL p := by simp [progL]
  rw [hbs] at hw7 HLN7
  have HW7 := Lib.hid hw7
  clear hw7 hf7 ho7 hq7 hbs
  refine (bytes_any _ _ _ _ _ HW7.out (by have := HLN7.out; omega)).mono ?_
  rintro e u8 ⟨v8, rfl, hown, hb8⟩
  obtain ⟨A8, c8, rfl, _⟩ := reads_own hown
  have HO8 := Lib.hid hown; have HB8 := Lib.hid hb8
  clear hown hb8
  go_wp2_with fail
  go_ret2
  exact ⟨A8, c8, rfl, own_mono HO8.out (by omega), HB1.out.trans ((HQ7.out.trans (HB8.out.mono zq7)).mono (by omega))⟩
end Go.Proofs.Ytmjbfobjndiecaa
