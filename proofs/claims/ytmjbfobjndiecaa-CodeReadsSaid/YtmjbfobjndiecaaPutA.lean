
/-
  How the program writes lists of numbers, instructions and functions.
-/
import Derived.Test.YtmjbfobjndiecaaGoodM
import Derived.Test.YtmjbfobjndiecaaWriter
import Derived.Test.YtmjbfobjndiecaaPrA
set_option linter.unusedVariables false
set_option linter.unusedSimpArgs false
namespace Go.Proofs.Ytmjbfobjndiecaa
open Go.RowKit Plain

/-- A list's bytes: how many, then each. -/
def listL (l : List Int) : List Nat := shortL l.length ++ l.flatMap fun x => shortL x.toNat
/-- An instruction's bytes. -/
def instrL (i : IV) : List Nat := fixedL i.op.toNat 1 ++ shortL (zig (min (max i.a (-2305843009213693952)) 2305843009213693951))
def codeL (c : List IV) : List Nat := shortL c.length ++ c.flatMap instrL
def funcL (f : FV) : List Nat := shortL f.locals.toNat ++ codeL f.code
def funcsL (fs : List FV) : List Nat := shortL fs.length ++ fs.flatMap funcL
def listsL (ls : List (List Int)) : List Nat := shortL ls.length ++ ls.flatMap listL
def progL (p : PV) : List Nat := funcsL p.funcs ++ shortL p.mutexes.toNat ++ listL p.conds ++ listL p.semas ++ listL p.chans ++ listsL p.choices ++ shortL p.threads.toNat

theorem flatMap_take {α : Type} {l : List α} {f : α → List Nat} {k : Nat} {x : α} (h : l[k]? = some x) : (l.take (k + 1)).flatMap f = (l.take k).flatMap f ++ f x := by
  rw [List.take_add_one, h]; simp

theorem flatMap_len {α : Type} (l : List α) (f : α → List Nat) (m : Nat) (h : ∀ x ∈ l, (f x).length ≤ m) : (l.flatMap f).length ≤ l.length * m := by
  induction l with
  | nil => simp
  | cons x r ih =>
    simp only [List.flatMap_cons, List.length_append, List.length_cons]
    have h1 := h x (by simp)
    have h2 := ih fun y hy => h y (by simp [hy])
    rw [Nat.add_mul]
    omega
theorem shortI_len {x : Int} (h : x ≤ 9223372036854775807) : (shortL x.toNat).length ≤ 9 := shortL_nine (by omega)
theorem shortN_len {n : Nat} (h : n ≤ 9223372036854775807) : (shortL n).length ≤ 9 := shortL_nine h
theorem zig_le (a : Int) : zig (min (max a (-2305843009213693952)) 2305843009213693951) ≤ 9223372036854775807 := by unfold zig; split <;> omega
theorem instrL_len (i : IV) : (instrL i).length ≤ 10 := by
  have := shortN_len (zig_le i.a)
  simp only [instrL, List.length_append, fixedL_length]
  omega

/-- A Writer that has put so much, as it was and as it is: what lies below its blocks is as it was. -/
theorem WStep.below {base g : Nat} {v : Value} {bs cs : List Nat} {w w' : World} (hW : Wr w base g v cs) (hg : base ≤ g) (h : WStep base g v bs w w') : Below base w w' := by
  obtain ⟨v', _, hf, _⟩ := h
  exact hW.step hg hf

def PutRel (base g : Nat) (v : Value) (bs : List Nat) (w : World) (n : Nat) (pre : Nat → List Nat) (s : Value) (wr : World) : Prop :=
  ∃ k : Nat, k ≤ n ∧ s = .int .i64 (k : Int) ∧ WStep base g v (bs ++ pre k) w wr

set_option maxHeartbeats 1000000 in
set_option maxRecDepth 100000 in
theorem putInts_any (base g : Nat) (v : Value) (bs : List Nat) (w : World) (hW : Wr w base g v bs) (hbg : base ≤ g) (hbase : base ≤ w.heap.size) (l : List Int) (B : Nat) (A : Option Addr) (n c : Nat) (hr : RI w B A n c l) (hB : B ≤ base) (hl : l.length ≤ 1000000)
    (hfit : ∀ x ∈ l, x ≤ 9223372036854775807) (hbs : bs.length ≤ 1099511627776) :
    Calls Try.prog 30 #[.pointer (some ⟨g, 0, none⟩), .slice A n c, .func (.func 29) #[.pointer (some ⟨g, 0, none⟩)] #[]] w fun e w' => e = .returned (.tuple #[]) ∧ WStep base g v (bs ++ listL l) w w' := by
  obtain ⟨rfl, hnc, hrd⟩ := hr
  have HR := Lib.hid hrd
  have HW := Lib.hid hW
  have HF := Lib.hid hfit
  clear hrd hW hfit
  go_enter Try.func30, Try.ntmps30
  go_wp2_with fail
  refine (short_nat base g v bs l.length w HW.out (by omega) (by omega) hbase).mono ?_
  rintro e w1 ⟨rfl, hst⟩
  have HS := Lib.hid hst
  have hb1 := hst.below HW.out hbg
  have z1 := hb1.size
  have HB1 := Lib.hid hb1
  clear hst hb1
  go_wp2_with fail
  go_loopw [14] (fun s wr => PutRel base g v bs w l.length (fun k => shortL l.length ++ (l.take k).flatMap fun x => shortL x.toNat) s wr) (fun s _ => l.length - (intOf s).toNat)
  case atStart => exact ⟨0, by omega, rfl, by simpa using HS.out⟩
  case round =>
    obtain ⟨k, hk, rfl, hst⟩ := hrel
    have HST := Lib.hid hst
    have hbr := hst.below HW.out hbg
    have zr := hbr.size
    obtain ⟨v1, hw1, hf1, ho1⟩ := hst
    by_cases hlt : k < l.length
    · obtain ⟨ad, x, rfl, hab, hx, hc⟩ := RI.at_ ⟨rfl, hnc, HR.out⟩ hlt
      have hxf := HF.out x (List.mem_of_getElem? hx)
      have hc' := (hbr.cell (p := ad.add k) (by rw [block_of_add]; omega)).trans hc
      have HSN := Lib.hid (flatMap_take (f := fun x : Int => shortL x.toNat) hx)
      have hlen : (bs ++ (shortL l.length ++ (l.take k).flatMap fun x => shortL x.toNat)).length ≤ 1099511627776 + 9 + 9000000 := by
        have h1 := shortN_len (n := l.length) (by omega)
        have h2 := flatMap_len (l.take k) (fun x => shortL x.toNat) 9 (fun x hx => shortI_len (HF.out x (List.mem_of_mem_take hx)))
        simp only [List.length_append, List.length_take] at h2 ⊢
        have : min k l.length * 9 ≤ 9000000 := by omega
        omega
      have HW1 := Lib.hid hw1; have HF1 := Lib.hid hf1; have HO1 := Lib.hid ho1
      clear hx hc hbr hw1 hf1 ho1
      go_wp2_with fail
      refine (short_any base g v1 _ x _ HW1.out hxf (by omega) (by omega)).mono ?_
      rintro e w' ⟨rfl, hq⟩
      have hq2 := WStep.trans HF1.out HO1.out hq
      have HQ := Lib.hid hq2
      clear hq hq2
      go_wp2_with fail
      refine ⟨⟨k + 1, by omega, by go_num, ?_⟩, by simp [intOf]; omega⟩
      have := HQ.out
      rw [List.append_assoc, List.append_assoc, ← HSN.out] at this
      exact this
    · have hq : WStep base g v (bs ++ listL l) w wr := by
        have := HST.out
        simp only at this
        rw [List.take_of_length_le (by omega)] at this
        exact this
      have HQ := Lib.hid hq
      clear hq hw1 hf1 ho1 hbr
      go_wp2_with fail
      go_end0
      exact ⟨rfl, HQ.out⟩

theorem WStep.pre {base g : Nat} {v : Value} {cs : List Nat} {w w' : World} {o : Obj} (h : WStep base g v cs (w.alloc o) w') : WStep base g v cs w w' := by
  obtain ⟨v', h1, h2, h3⟩ := h
  refine ⟨v', h1, ((Fr.refl _ w).alloc o).trans h2 (fun _ _ h => h), fun i hi => ?_⟩
  rcases h3 i hi with h | h
  · exact .inl h
  · simp at h; exact .inr (by omega)
theorem Fr.pre {S : Nat → Prop} {w w' : World} {o : Obj} (h : Fr S (w.alloc o) w') : Fr S w w' := ((Fr.refl _ w).alloc o).trans h (fun _ _ h => h)
theorem own_pre {v v' : Value} {w : World} {o : Obj} (h : ∀ i, v'.ownBlock = some i → v.ownBlock = some i ∨ (w.alloc o).heap.size ≤ i) : ∀ i, v'.ownBlock = some i → v.ownBlock = some i ∨ w.heap.size ≤ i := fun i hi => by
  rcases h i hi with h | h
  · exact .inl h
  · simp at h; exact .inr (by omega)
theorem Wr.notOwn {w : World} {base g cb : Nat} {v : Value} {bs : List Nat} {T : TypeId} {cs : Array Value} (hW : Wr w base g v bs) (hb : Blk w cb T cs) (h1 : T ≠ 55) (h2 : T ≠ 5) : ¬ OwnW g v cb := by
  rintro (h | h)
  · exact Blk.ne_ hb hW.1 h1 h
  · exact own_blk_ne hW.2 hb (fun e => h2 e.symm) h

set_option maxHeartbeats 1000000 in
set_option maxRecDepth 100000 in
theorem putInstr1_any (base g cb : Nat) (v : Value) (bs : List Nat) (w : World) (hW : Wr w base g v bs) (hbg : base ≤ g) (hbase : base ≤ w.heap.size) (hcb : Blk w cb 57 #[.pointer (some ⟨g, 0, none⟩)]) (i : IV) (ho : 0 ≤ i.op ∧ i.op ≤ 9223372036854775807) (ha : -9223372036854775808 ≤ i.a ∧ i.a ≤ 9223372036854775807) (hbs : bs.length ≤ 70368744177664) :
    Calls Try.prog 66 #[.agg #[.int .i64 i.op, .int .i64 i.a], .pointer (some ⟨cb, 0, none⟩)] w fun e w' => e = .returned (.tuple #[]) ∧ WStep base g v (bs ++ instrL i) w w' := by
  have hn := hW.notOwn hcb (by decide) (by decide)
  have hc0 : w.cell? ⟨cb, 0, none⟩ = some (.pointer (some ⟨g, 0, none⟩)) := (hcb.cell 0).trans rfl
  have hcl := hcb.lt
  have HW := Lib.hid hW
  have HCB := Lib.hid hcb
  have HN := Lib.hid hn
  obtain ⟨op, x⟩ := i
  simp only at ho ha ⊢
  obtain ⟨o, rfl⟩ := Int.eq_ofNat_of_zero_le ho.1
  have hu : IntKind.u64.wrap (o : Int) = (o : Int) := by rw [IntKind.wrap_u64]; omega
  have HU := Lib.hid hu
  clear hW hcb hn hu
  go_enter Try.func66, Try.ntmps66
  go_wp2_with fail
  have e : IntKind.u64.wrap (o : Int) = (o : Int) := HU.out
  try rw [e]
  refine (fixed_any base g v bs o 1 _ (HW.out.alloc _) (by omega) (.inl rfl) (by omega) (by simp; omega)).mono ?_
  rintro e w1 ⟨rfl, hst⟩
  obtain ⟨v1, hw1, hf1, ho1⟩ := hst
  have HF1 := Lib.hid hf1.pre
  have HO1 := Lib.hid (own_pre ho1)
  have hcb1 := hf1.blk (HCB.out.alloc _) HN.out
  have hbx := hf1.blk (Blk.new w 47 #[.int .i64 (o : Int), .int .i64 x]) (fun h => by
    rcases h with h | h
    · have := HW.out.lt; omega
    · have := (HW.out.2.lt _ h).2; omega)
  have c1 := (hcb1.cell 0).trans rfl
  have c2 := (hbx.cell 1).trans rfl
  have z1 := hf1.size
  have HW1 := Lib.hid hw1
  have hl : (bs ++ fixedL o 1).length = bs.length + 1 := by simp [fixedL_length]
  have HL := Lib.hid hl
  have zs : w.heap.size + 1 ≤ w1.heap.size := by simpa using z1
  clear hw1 hf1 ho1 hcb1 hbx z1 hl e
  go_wp2_with fail
  refine (signed_any base g v1 _ x _ HW1.out ha.1 ha.2 (by rw [HL.out]; omega) (by omega)).mono ?_
  rintro e w2 ⟨rfl, hq⟩
  have hq2 := WStep.trans HF1.out HO1.out hq
  have HQ := Lib.hid hq2
  clear hq hq2
  go_wp2_with fail
  go_end0
  refine ⟨rfl, ?_⟩
  have := HQ.out
  rw [List.append_assoc] at this
  exact this

set_option maxHeartbeats 1000000 in
set_option maxRecDepth 100000 in
theorem putInstrs_any (base g cb : Nat) (v : Value) (bs : List Nat) (w : World) (hW : Wr w base g v bs) (hbg : base ≤ g) (hbase : base ≤ w.heap.size) (hcb : Blk w cb 57 #[.pointer (some ⟨g, 0, none⟩)]) (l : List IV) (B : Nat) (A : Option Addr) (n c : Nat) (hr : RC w B A n c l) (hB : B ≤ base) (hl : l.length ≤ 1000000)
    (hfit : ∀ i ∈ l, (0 ≤ i.op ∧ i.op ≤ 9223372036854775807) ∧ -9223372036854775808 ≤ i.a ∧ i.a ≤ 9223372036854775807) (hbs : bs.length ≤ 35184372088832) :
    Calls Try.prog 65 #[.pointer (some ⟨g, 0, none⟩), .slice A n c, .func (.func 66) #[] #[.pointer (some ⟨cb, 0, none⟩)]] w fun e w' => e = .returned (.tuple #[]) ∧ WStep base g v (bs ++ codeL l) w w' := by
  obtain ⟨rfl, hnc, hrd⟩ := hr
  have HR := Lib.hid hrd
  have HW := Lib.hid hW
  have HF := Lib.hid hfit
  have HCB := Lib.hid hcb
  have HN := Lib.hid (hW.notOwn hcb (by decide) (by decide))
  clear hrd hW hfit hcb
  go_enter Try.func65, Try.ntmps65
  go_wp2_with fail
  refine (short_nat base g v bs l.length w HW.out (by omega) (by omega) hbase).mono ?_
  rintro e w1 ⟨rfl, hst⟩
  have HS := Lib.hid hst
  clear hst
  go_wp2_with fail
  go_loopw [14] (fun s wr => PutRel base g v bs w l.length (fun k => shortL l.length ++ (l.take k).flatMap instrL) s wr) (fun s _ => l.length - (intOf s).toNat)
  case atStart => exact ⟨0, by omega, rfl, by simpa using HS.out⟩
  case round =>
    obtain ⟨k, hk, rfl, hst⟩ := hrel
    have HST := Lib.hid hst
    have hbr := hst.below HW.out hbg
    have zr := hbr.size
    obtain ⟨v1, hw1, hf1, ho1⟩ := hst
    by_cases hlt : k < l.length
    · obtain ⟨ad, x, rfl, hab, hx, hc0, hc1⟩ := RC.at_ ⟨rfl, hnc, HR.out⟩ hlt
      have hxf := HF.out x (List.mem_of_getElem? hx)
      have d0 := (hbr.cell (p := ad.add (k * 2)) (by rw [block_of_add]; omega)).trans hc0
      have d1 := (hbr.cell (p := ⟨(ad.add (k * 2)).block, (ad.add (k * 2)).off + 1, none⟩) (by show (ad.add (k * 2)).block < _; rw [block_of_add]; omega)).trans hc1
      have HSN := Lib.hid (flatMap_take (f := instrL) hx)
      have hlen : (bs ++ (shortL l.length ++ (l.take k).flatMap instrL)).length ≤ 35184372088832 + 9 + 10000000 := by
        have h1 := shortN_len (n := l.length) (by omega)
        have h2 := flatMap_len (l.take k) instrL 10 (fun x _ => instrL_len x)
        simp only [List.length_append, List.length_take] at h2 ⊢
        have : min k l.length * 10 ≤ 10000000 := by omega
        omega
      have HW1 := Lib.hid hw1; have HF1 := Lib.hid hf1; have HO1 := Lib.hid ho1
      have HCB1 := Lib.hid (hf1.blk HCB.out HN.out)
      clear hx hc0 hc1 hbr hw1 hf1 ho1
      go_wp2_with fail
      refine (putInstr1_any base g cb v1 _ _ (HW1.out.alloc _) hbg (by simp; omega) (HCB1.out.alloc _) x hxf.1 hxf.2 (by omega)).mono ?_
      rintro e w' ⟨rfl, hq⟩
      have hq2 := WStep.trans HF1.out HO1.out hq.pre
      have HQ := Lib.hid hq2
      clear hq hq2
      go_wp2_with fail
      refine ⟨⟨k + 1, by omega, by go_num, ?_⟩, by simp [intOf]; omega⟩
      have := HQ.out
      rw [List.append_assoc, List.append_assoc, ← HSN.out] at this
      exact this
    · have hq : WStep base g v (bs ++ codeL l) w wr := by
        have := HST.out
        simp only at this
        rw [List.take_of_length_le (by omega)] at this
        exact this
      have HQ := Lib.hid hq
      clear hq hw1 hf1 ho1 hbr
      go_wp2_with fail
      go_end0
      exact ⟨rfl, HQ.out⟩
end Go.Proofs.Ytmjbfobjndiecaa
