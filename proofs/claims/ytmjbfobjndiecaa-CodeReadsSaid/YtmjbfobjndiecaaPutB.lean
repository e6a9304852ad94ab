
/-
  How the program writes functions and rows of numbers.
-/
import Derived.Test.YtmjbfobjndiecaaPutA
set_option linter.unusedVariables false
set_option linter.unusedSimpArgs false
namespace Go.Proofs.Ytmjbfobjndiecaa
open Go.RowKit Plain

theorem codeL_len (c : List IV) (h : c.length ≤ 1000000) : (codeL c).length ≤ 9 + c.length * 10 := by
  have h1 := shortN_len (n := c.length) (by omega)
  have h2 := flatMap_len c instrL 10 (fun x _ => instrL_len x)
  simp only [codeL, List.length_append]
  omega
theorem funcL_len (f : FV) (h : f.code.length ≤ 1000) (hl : f.locals ≤ 9223372036854775807) : (funcL f).length ≤ 10018 := by
  have h1 := shortI_len hl
  have h2 := codeL_len f.code (by omega)
  simp only [funcL, List.length_append]
  omega
theorem listL_len (l : List Int) (h : l.length ≤ 1000) (hf : ∀ x ∈ l, x ≤ 9223372036854775807) : (listL l).length ≤ 9009 := by
  have h1 := shortN_len (n := l.length) (by omega)
  have h2 := flatMap_len l (fun x => shortL x.toNat) 9 (fun x hx => shortI_len (hf x hx))
  simp only [listL, List.length_append]
  omega

/-- A function's numbers are such as may be written. -/
def PutF (f : FV) : Prop := f.locals ≤ 9223372036854775807 ∧ f.code.length ≤ 1000 ∧ ∀ i ∈ f.code, (0 ≤ i.op ∧ i.op ≤ 9223372036854775807) ∧ -9223372036854775808 ≤ i.a ∧ i.a ≤ 9223372036854775807

set_option maxHeartbeats 1000000 in
set_option maxRecDepth 100000 in
theorem putFunc_any (base g : Nat) (v : Value) (bs : List Nat) (w : World) (hW : Wr w base g v bs) (hbg : base ≤ g) (hbase : base ≤ w.heap.size) (f : FV) (B : Nat) (kA : Option Addr) (kc : Nat) (hr : RC w B kA f.code.length kc f.code) (hB : B ≤ base) (hf : PutF f) (hbs : bs.length ≤ 17592186044416) :
    Calls Try.prog 28 #[.pointer (some ⟨g, 0, none⟩), .agg #[.int .i64 f.locals, .slice kA f.code.length kc]] w fun e w' => e = .returned (.tuple #[]) ∧ WStep base g v (bs ++ funcL f) w w' := by
  have hl := hf.1
  have hcl := hf.2.1
  have HW := Lib.hid hW
  have HR := Lib.hid hr
  have HF := Lib.hid hf.2.2
  clear hW hr hf
  go_enter Try.func28, Try.ntmps28
  go_wp2_with fail
  generalize hW0 : World.alloc (World.alloc w _) _ = W0
  have hk : Blk W0 w.heap.size 57 #[.pointer (some ⟨g, 0, none⟩)] ∧ Blk W0 (w.heap.size + 1) 45 #[.int .i64 f.locals, .slice kA f.code.length kc] ∧ Wr W0 base g v bs ∧ Fr (fun _ => False) w W0 := by
    rw [← hW0]
    refine ⟨(Blk.new w _ _).alloc _, ?_, (HW.out.alloc _).alloc _, ((Fr.refl _ w).alloc _).alloc _⟩
    simpa using Blk.new (w.alloc (.cells #[.pointer (some ⟨g, 0, none⟩)] 57)) 45 #[.int .i64 f.locals, .slice kA f.code.length kc]
  obtain ⟨k1, k2, k3, k4⟩ := hk
  clear hW0
  have z0 : w.heap.size + 1 < W0.heap.size := k2.lt
  have n1 := k3.notOwn k1 (by decide) (by decide)
  have n2 := k3.notOwn k2 (by decide) (by decide)
  have HR0 : Hid (RC W0 B kA f.code.length kc f.code) := HR.out.keep fun q hq => k4.cell (by omega) (fun h => h)
  have K1 := Lib.hid k1; have K2 := Lib.hid k2; have K3 := Lib.hid k3; have K4 := Lib.hid k4; have N1 := Lib.hid n1; have N2 := Lib.hid n2
  clear k1 k2 k3 k4 n1 n2
  refine (short_any base g v bs f.locals _ K3.out (by omega) (by omega) (by omega)).mono ?_
  rintro e w1 ⟨rfl, hst⟩
  have hb1 := hst.below K3.out hbg
  have HR1 : Hid (RC w1 B kA f.code.length kc f.code) := HR0.out.keep fun q hq => hb1.cell (by omega)
  obtain ⟨v1, hw1, hf1, ho1⟩ := hst
  have q1 := hf1.blk K1.out N1.out
  have q2 := hf1.blk K2.out N2.out
  have c0 := (q1.cell 0).trans rfl
  have c1 := (q2.cell 1).trans rfl
  have z1 := hf1.size
  have Q1 := Lib.hid q1; have HW1 := Lib.hid hw1; have HF1 := Lib.hid hf1; have HO1 := Lib.hid ho1
  have hlen : (bs ++ shortL f.locals.toNat).length ≤ 17592186044416 + 9 := by
    have := shortI_len hl
    simp only [List.length_append]
    omega
  clear hb1 hw1 hf1 ho1 q1 q2
  go_wp2_with fail
  refine (putInstrs_any base g w.heap.size v1 _ w1 HW1.out hbg (by omega) Q1.out f.code B kA _ kc HR1.out hB (by omega) HF.out (by omega)).mono ?_
  rintro e w2 ⟨rfl, hq⟩
  have hq2 := WStep.trans HF1.out HO1.out hq
  have HQ := Lib.hid hq2
  clear hq hq2
  go_wp2_with fail
  go_end0
  refine ⟨rfl, ?_⟩
  have h9 := HQ.out
  rw [List.append_assoc] at h9
  obtain ⟨v2, a1, a2, a3⟩ := h9
  exact ⟨v2, a1, (K4.out.mono (fun _ _ h => h.elim)).trans a2 (fun _ _ h => h), fun i hi => by
    rcases a3 i hi with h | h
    · exact .inl h
    · exact .inr (by omega)⟩

set_option maxHeartbeats 1000000 in
theorem write1_any (base g : Nat) (v : Value) (bs : List Nat) (w : World) (hW : Wr w base g v bs) (hbg : base ≤ g) (hbase : base ≤ w.heap.size) (f : FV) (B : Nat) (kA : Option Addr) (kc : Nat) (hr : RC w B kA f.code.length kc f.code) (hB : B ≤ base) (hf : PutF f) (hbs : bs.length ≤ 17592186044416) :
    Calls Try.prog 27 #[.agg #[.int .i64 f.locals, .slice kA f.code.length kc], .pointer (some ⟨g, 0, none⟩)] w fun e w' => e = .returned (.tuple #[]) ∧ WStep base g v (bs ++ funcL f) w w' := by
  have HW := Lib.hid hW
  have HR := Lib.hid hr
  have HF := Lib.hid hf
  clear hW hr hf
  go_enter Try.func27, Try.ntmps27
  go_wp2_with fail
  refine (putFunc_any base g v bs _ (HW.out.alloc _) hbg (by simp; omega) f B kA kc (HR.out.keep fun q hq => World.cell?_alloc_lt _ _ q (by omega)) hB HF.out hbs).mono ?_
  rintro e w1 ⟨rfl, hq⟩
  have HQ := Lib.hid hq.pre
  clear hq
  go_wp2_with fail
  go_end0
  exact ⟨rfl, HQ.out⟩

set_option maxHeartbeats 1000000 in
theorem write2_any (base g : Nat) (v : Value) (bs : List Nat) (w : World) (hW : Wr w base g v bs) (hbg : base ≤ g) (hbase : base ≤ w.heap.size) (l : List Int) (B : Nat) (A : Option Addr) (n c : Nat) (hr : RI w B A n c l) (hB : B ≤ base) (hl : l.length ≤ 1000000)
    (hfit : ∀ x ∈ l, x ≤ 9223372036854775807) (hbs : bs.length ≤ 1099511627776) :
    Calls Try.prog 32 #[.slice A n c, .pointer (some ⟨g, 0, none⟩)] w fun e w' => e = .returned (.tuple #[]) ∧ WStep base g v (bs ++ listL l) w w' := by
  have HW := Lib.hid hW
  have HR := Lib.hid hr
  have HF := Lib.hid hfit
  clear hW hr hfit
  go_enter Try.func32, Try.ntmps32
  go_wp2_with fail
  refine (putInts_any base g v bs _ HW.out hbg hbase l B A n c HR.out hB hl HF.out hbs).mono ?_
  rintro e w1 ⟨rfl, hq⟩
  have HQ := Lib.hid hq
  clear hq
  go_wp2_with fail
  go_end0
  exact ⟨rfl, HQ.out⟩

set_option maxHeartbeats 1000000 in
set_option maxRecDepth 100000 in
theorem putFuncs_any (base g : Nat) (v : Value) (bs : List Nat) (w : World) (hW : Wr w base g v bs) (hbg : base ≤ g) (hbase : base ≤ w.heap.size) (l : List FV) (B : Nat) (A : Option Addr) (n c : Nat) (hr : RF w B A n c l) (hB : B ≤ base) (hl : l.length ≤ 1000)
    (hfit : ∀ f ∈ l, PutF f) (hbs : bs.length ≤ 1099511627776) :
    Calls Try.prog 26 #[.pointer (some ⟨g, 0, none⟩), .slice A n c, .func (.func 27) #[] #[.pointer (some ⟨g, 0, none⟩)]] w fun e w' => e = .returned (.tuple #[]) ∧ WStep base g v (bs ++ funcsL l) w w' := by
  obtain rfl : l.length = n := by obtain ⟨ts, _, h2, _⟩ := hr; exact h2
  have HR := Lib.hid hr
  have HW := Lib.hid hW
  have HF := Lib.hid hfit
  clear hr hW hfit
  go_enter Try.func26, Try.ntmps26
  go_wp2_with fail
  refine (short_nat base g v bs l.length w HW.out (by omega) (by omega) hbase).mono ?_
  rintro e w1 ⟨rfl, hst⟩
  have HS := Lib.hid hst
  clear hst
  go_wp2_with fail
  go_loopw [14] (fun s wr => PutRel base g v bs w l.length (fun k => shortL l.length ++ (l.take k).flatMap funcL) s wr) (fun s _ => l.length - (intOf s).toNat)
  case atStart => exact ⟨0, by omega, rfl, by simpa using HS.out⟩
  case round =>
    obtain ⟨k, hk, rfl, hst⟩ := hrel
    have HST := Lib.hid hst
    have hbr := hst.below HW.out hbg
    have HBR := Lib.hid hbr
    have zr := hbr.size
    obtain ⟨v1, hw1, hf1, ho1⟩ := hst
    by_cases hlt : k < l.length
    · obtain ⟨ad, t, rfl, hab, hx, hc0, hc1, hrc⟩ := HR.out.at_ hlt
      have hxf := HF.out _ (List.mem_of_getElem? hx)
      have d0 := (hbr.cell (p := ad.add (k * 2)) (by rw [block_of_add]; omega)).trans hc0
      have d1 := (hbr.cell (p := ⟨(ad.add (k * 2)).block, (ad.add (k * 2)).off + 1, none⟩) (by show (ad.add (k * 2)).block < _; rw [block_of_add]; omega)).trans hc1
      have HSN := Lib.hid (flatMap_take (f := funcL) hx)
      have hlen : (bs ++ (shortL l.length ++ (l.take k).flatMap funcL)).length ≤ 1099511627776 + 9 + 10018000 := by
        have h1 := shortN_len (n := l.length) (by omega)
        have h2 := flatMap_len (l.take k) funcL 10018 (fun x hx => funcL_len x (HF.out x (List.mem_of_mem_take hx)).2.1 (HF.out x (List.mem_of_mem_take hx)).1)
        simp only [List.length_append, List.length_take] at h2 ⊢
        have : min k l.length * 10018 ≤ 10018000 := by omega
        omega
      have HW1 := Lib.hid hw1; have HF1 := Lib.hid hf1; have HO1 := Lib.hid ho1
      have HXF := Lib.hid hxf
      have HRC : Hid (∀ o : Obj, RC (wr.alloc o) B t.A t.f.code.length t.c t.f.code) := fun o => hrc.keep fun q hq => (World.cell?_alloc_lt _ _ q (by omega)).trans (HBR.out.cell (by omega))
      obtain ⟨⟨lo, code⟩, kA, kc⟩ := t
      simp only at d0 d1 HSN HXF HRC ⊢
      clear hx hc0 hc1 hbr hw1 hf1 ho1 hrc hxf
      go_wp2_with fail
      refine (write1_any base g v1 _ _ (HW1.out.alloc _) hbg (by simp; omega) ⟨lo, code⟩ B kA kc (HRC.out _) hB HXF.out (by omega)).mono ?_
      rintro e w' ⟨rfl, hq⟩
      have hq2 := WStep.trans HF1.out HO1.out hq.pre
      have HQ := Lib.hid hq2
      clear hq hq2
      go_wp2_with fail
      refine ⟨⟨k + 1, by omega, by go_num, ?_⟩, by simp [intOf]; omega⟩
      have := HQ.out
      rw [List.append_assoc, List.append_assoc, ← HSN.out] at this
      exact this
    · have hq : WStep base g v (bs ++ funcsL l) w wr := by
        have := HST.out
        simp only at this
        rw [List.take_of_length_le (by omega)] at this
        exact this
      have HQ := Lib.hid hq
      clear hq hw1 hf1 ho1 hbr
      go_wp2_with fail
      go_end0
      exact ⟨rfl, HQ.out⟩

set_option maxHeartbeats 1000000 in
set_option maxRecDepth 100000 in
theorem putLists_any (base g : Nat) (v : Value) (bs : List Nat) (w : World) (hW : Wr w base g v bs) (hbg : base ≤ g) (hbase : base ≤ w.heap.size) (l : List (List Int)) (B : Nat) (A : Option Addr) (n c : Nat) (hr : RL w B A n c l) (hB : B ≤ base) (hl : l.length ≤ 1000)
    (hfit : ∀ x ∈ l, x.length ≤ 1000 ∧ ∀ y ∈ x, y ≤ 9223372036854775807) (hbs : bs.length ≤ 549755813888) :
    Calls Try.prog 31 #[.pointer (some ⟨g, 0, none⟩), .slice A n c, .func (.func 32) #[] #[.pointer (some ⟨g, 0, none⟩)]] w fun e w' => e = .returned (.tuple #[]) ∧ WStep base g v (bs ++ listsL l) w w' := by
  obtain rfl : l.length = n := by obtain ⟨ts, _, h2, _⟩ := hr; exact h2
  have HR := Lib.hid hr
  have HW := Lib.hid hW
  have HF := Lib.hid hfit
  clear hr hW hfit
  go_enter Try.func31, Try.ntmps31
  go_wp2_with fail
  refine (short_nat base g v bs l.length w HW.out (by omega) (by omega) hbase).mono ?_
  rintro e w1 ⟨rfl, hst⟩
  have HS := Lib.hid hst
  clear hst
  go_wp2_with fail
  go_loopw [14] (fun s wr => PutRel base g v bs w l.length (fun k => shortL l.length ++ (l.take k).flatMap listL) s wr) (fun s _ => l.length - (intOf s).toNat)
  case atStart => exact ⟨0, by omega, rfl, by simpa using HS.out⟩
  case round =>
    obtain ⟨k, hk, rfl, hst⟩ := hrel
    have HST := Lib.hid hst
    have hbr := hst.below HW.out hbg
    have HBR := Lib.hid hbr
    have zr := hbr.size
    obtain ⟨v1, hw1, hf1, ho1⟩ := hst
    by_cases hlt : k < l.length
    · obtain ⟨ad, t, rfl, hab, hx, hc0, hrc⟩ := HR.out.at_ hlt
      have hxf := HF.out _ (List.mem_of_getElem? hx)
      have d0 := (hbr.cell (p := ad.add k) (by rw [block_of_add]; omega)).trans hc0
      have HSN := Lib.hid (flatMap_take (f := listL) hx)
      have hlen : (bs ++ (shortL l.length ++ (l.take k).flatMap listL)).length ≤ 549755813888 + 9 + 9009000 := by
        have h1 := shortN_len (n := l.length) (by omega)
        have h2 := flatMap_len (l.take k) listL 9009 (fun x hx => listL_len x (HF.out x (List.mem_of_mem_take hx)).1 (HF.out x (List.mem_of_mem_take hx)).2)
        simp only [List.length_append, List.length_take] at h2 ⊢
        have : min k l.length * 9009 ≤ 9009000 := by omega
        omega
      have HW1 := Lib.hid hw1; have HF1 := Lib.hid hf1; have HO1 := Lib.hid ho1
      have HXF := Lib.hid hxf
      have HRC : Hid (RI wr B t.A t.l.length t.c t.l) := hrc.keep fun q hq => HBR.out.cell (by omega)
      clear hx hc0 hbr hw1 hf1 ho1 hrc hxf
      go_wp2_with fail
      refine (write2_any base g v1 _ _ HW1.out hbg (by omega) t.l B t.A _ t.c HRC.out hB (by have := HXF.out.1; omega) HXF.out.2 (by omega)).mono ?_
      rintro e w' ⟨rfl, hq⟩
      have hq2 := WStep.trans HF1.out HO1.out hq
      have HQ := Lib.hid hq2
      clear hq hq2
      go_wp2_with fail
      refine ⟨⟨k + 1, by omega, by go_num, ?_⟩, by simp [intOf]; omega⟩
      have := HQ.out
      rw [List.append_assoc, List.append_assoc, ← HSN.out] at this
      exact this
    · have hq : WStep base g v (bs ++ listsL l) w wr := by
        have := HST.out
        simp only at this
        rw [List.take_of_length_le (by omega)] at this
        exact this
      have HQ := Lib.hid hq
      clear hq hw1 hf1 ho1 hbr
      go_wp2_with fail
      go_end0
      exact ⟨rfl, HQ.out⟩
end Go.Proofs.Ytmjbfobjndiecaa
