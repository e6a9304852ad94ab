
/-
  CrA, CrB, CrC in one text.
-/
import Derived.Test.YtmjbfobjndiecaaRfR
import Derived.Test.YtmjbfobjndiecaaRdB
import Derived.Test.YtmjbfobjndiecaaCrP
import Derived.Deep.RegionHeld3
import Derived.Test.YtmjbfobjndiecaaGoodM
import Derived.Test.YtmjbfobjndiecaaPrB
import Derived.Test.YtmjbfobjndiecaaGood
import Derived.Deep.RegionLaw
set_option linter.unusedVariables false
set_option linter.unusedSimpArgs false
namespace Go.Proofs.Ytmjbfobjndiecaa
section
open Go.RowKit Plain

theorem rs_cases2 (xs : List Nat) (hx : ∀ x ∈ xs, x < 256) : (∃ V K, rs xs = (V, K, 0) ∧ K ≤ xs.length ∧ V ≤ 9223372036854775807) ∨ ∃ E, E ≠ 0 ∧ rs xs = (0, 0, E) := by
  by_cases h : (rs xs).2.2 = 0
  · obtain ⟨h1, h2, h3, h4⟩ := rs_ok hx h
    exact .inl ⟨_, _, Prod.ext rfl (Prod.ext rfl h), h2, h4⟩
  · obtain ⟨h1, h2, h3⟩ := rs_err h
    exact .inr ⟨_, h, Prod.ext h1 (Prod.ext h2 rfl)⟩
/-- What the document's call tells. -/
def RefT (f : FuncId) (args : Array Value) (A : Option Addr) (n c at' : Nat) (e' : Int) (val : Value) (BB : Nat) (bs : List Nat) : Prop :=
  ∀ W : World, Reads W BB 1 A n (BS bs) → BB ≤ W.heap.size → Calls Try.prog f args W fun en w' => en = .returned (.tuple #[.agg #[.slice A n c, .int .i64 (at' : Int), .int .i64 e'], val]) ∧ Below W.heap.size W w'
/-- What the program's call leaves. -/
def RdT (f : FuncId) (args : Array Value) (base g : Nat) (v : Value) (bs : List Nat) (at_ : Nat) (e : Int) (at' : Nat) (e' : Int) (val : Value) : Prop :=
  ∀ W : World, Rd W base g v bs at_ e → Calls Try.prog f (#[.pointer (some ⟨g, 0, none⟩)] ++ args) W fun en w' => en = .returned val ∧ RdStep base g v bs (at', e') W w'

theorem stP_ok {f : List Nat → Int × Nat × Nat} {bs : List Nat} {at_ K : Nat} {x : Int} (h : f (bs.drop at_) = (x, K, 0)) : stP f bs (at_, 0) = (x, (at_ + K, 0)) := by
  unfold stP; simp only; rw [h]; simp [orZ, stepR]
theorem stP_no {f : List Nat → Int × Nat × Nat} {bs : List Nat} {at_ E : Nat} (h : f (bs.drop at_) = (0, 0, E)) (hE : E ≠ 0) : stP f bs (at_, 0) = (0, (at_, (E : Int))) := by
  unfold stP; simp only; rw [h]; simp [orZ, stepR, hE]
theorem stP_stop {f : List Nat → Int × Nat × Nat} {bs : List Nat} {at_ : Nat} {e : Int} (h : e ≠ 0) : stP f bs (at_, e) = (0, (at_, e)) := by
  unfold stP; simp [orZ, stepR, h]

section
variable (bs : List Nat) (c at_ : Nat) (A : Option Addr) (e : Int) (base g : Nat) (v : Value) (BB : Nat) (hx : ∀ x ∈ bs, x < 256) (hnc : bs.length ≤ c) (hn : bs.length ≤ 140737488355328) (hat : at_ ≤ bs.length)
include hx hnc hn hat
theorem told_short : RefT 61 #[.agg #[.slice A bs.length c, .int .i64 (at_ : Int), .int .i64 e]] A bs.length c (stP sh bs (at_, e)).2.1 (stP sh bs (at_, e)).2.2 (.int .i64 (stP sh bs (at_, e)).1) BB bs ∧ RdT 46 #[] base g v bs at_ e (stP sh bs (at_, e)).2.1 (stP sh bs (at_, e)).2.2 (.int .i64 (stP sh bs (at_, e)).1) := by
  have hdx : ∀ x ∈ bs.drop at_, x < 256 := fun x h => hx x (List.mem_of_mem_drop h)
  have hdl : (bs.drop at_).length = bs.length - at_ := List.length_drop
  by_cases he : e = 0
  · subst he
    rcases rs_cases2 (bs.drop at_) hdx with ⟨V, K, hrs, hK, hV⟩ | ⟨E, hE, hrs⟩
    · rw [show stP sh bs (at_, 0) = ((V : Int), (at_ + K, 0)) from stP_ok (by unfold sh; rw [hrs])]
      refine ⟨fun W hr hB => (ref_rshort bs _ c at_ A W BB hr hx rfl hB hnc hn hat).mono ?_, fun W hR => (rd_short_yes base g v bs at_ V K W hR hx hn hrs (by omega)).mono ?_⟩
      · rintro en w' ⟨h1, h2⟩
        obtain ⟨V', K', E', h1, h1'⟩ := h1
        rw [hrs] at h1
        injection h1 with a1 a2
        injection a2 with a2 a3
        subst a1 a2 a3
        exact ⟨by rw [h1']; try simp, h2⟩
      · rintro en w' ⟨h1, h2⟩
        exact ⟨by rw [h1]; try simp, by simpa using h2⟩
    · rw [show stP sh bs (at_, 0) = (0, (at_, (E : Int))) from stP_no (by unfold sh; rw [hrs]; rfl) hE]
      refine ⟨fun W hr hB => (ref_rshort bs _ c at_ A W BB hr hx rfl hB hnc hn hat).mono ?_, fun W hR => (rd_short_no base g v bs at_ E W hR hx hn hrs hE).mono ?_⟩
      · rintro en w' ⟨h1, h2⟩
        obtain ⟨V', K', E', h1, h1'⟩ := h1
        rw [hrs] at h1
        injection h1 with a1 a2
        injection a2 with a2 a3
        subst a1 a2 a3
        exact ⟨by rw [h1']; try simp, h2⟩
      · rintro en w' ⟨h1, h2⟩
        exact ⟨by rw [h1]; try simp, by simpa using h2⟩
  · rw [show stP sh bs (at_, e) = (0, (at_, e)) from stP_stop he]
    refine ⟨fun W hr hB => (ref_rshort_stop _ c at_ A e W he).mono ?_, fun W hR => (rd_short_stop base g v bs at_ e W hR he).mono ?_⟩
    · rintro en w' ⟨h1, h2⟩
      exact ⟨h1, h2⟩
    · rintro en w' ⟨h1, h2⟩
      exact ⟨by rw [h1]; try simp, by simpa using h2⟩

theorem told_signed : RefT 89 #[.agg #[.slice A bs.length c, .int .i64 (at_ : Int), .int .i64 e]] A bs.length c (stP sg bs (at_, e)).2.1 (stP sg bs (at_, e)).2.2 (.int .i64 (stP sg bs (at_, e)).1) BB bs ∧ RdT 79 #[] base g v bs at_ e (stP sg bs (at_, e)).2.1 (stP sg bs (at_, e)).2.2 (.int .i64 (stP sg bs (at_, e)).1) := by
  have hdx : ∀ x ∈ bs.drop at_, x < 256 := fun x h => hx x (List.mem_of_mem_drop h)
  have hdl : (bs.drop at_).length = bs.length - at_ := List.length_drop
  by_cases he : e = 0
  · subst he
    rcases rs_cases2 (bs.drop at_) hdx with ⟨V, K, hrs, hK, hV⟩ | ⟨E, hE, hrs⟩
    · by_cases hb : V ≤ 4611686018427387903
      · by_cases ho : V % 2 = 1
        · rw [show stP sg bs (at_, 0) = (unzig V, (at_ + K, 0)) from stP_ok (by unfold sg; rw [hrs]; simp [hb])]
          refine ⟨fun W hr hB => (ref_rsigned_odd bs _ c at_ A W BB hr hx rfl hB hnc hn hat V K hb (by omega) hrs).mono ?_, fun W hR => (rd_signed_yes base g v bs at_ V K W hR hx hn hrs (by omega) hb).mono ?_⟩
          · rintro en w' ⟨h1, h2⟩
            exact ⟨by rw [h1, show unzig V = -(((V : Int) / 2) + 1) by unfold unzig; rw [if_pos ho]; omega]; simp, h2⟩
          · rintro en w' ⟨h1, h2⟩
            exact ⟨by rw [h1]; try simp, by simpa using h2⟩
        · rw [show stP sg bs (at_, 0) = (unzig V, (at_ + K, 0)) from stP_ok (by unfold sg; rw [hrs]; simp [hb])]
          refine ⟨fun W hr hB => (ref_rsigned_even bs _ c at_ A W BB hr hx rfl hB hnc hn hat V K hb (by omega) hrs).mono ?_, fun W hR => (rd_signed_yes base g v bs at_ V K W hR hx hn hrs (by omega) hb).mono ?_⟩
          · rintro en w' ⟨h1, h2⟩
            exact ⟨by rw [h1, show unzig V = ((V : Int) / 2) by unfold unzig; rw [if_neg ho]; omega]; simp, h2⟩
          · rintro en w' ⟨h1, h2⟩
            exact ⟨by rw [h1]; try simp, by simpa using h2⟩
      · rw [show stP sg bs (at_, 0) = (0, (at_, ((3 : Nat) : Int))) from stP_no (E := 3) (by unfold sg; rw [hrs]; simp [hb]) (by omega)]
        refine ⟨fun W hr hB => (ref_rsigned_big bs _ c at_ A W BB hr hx rfl hB hnc hn hat V K (by omega) hV hrs).mono ?_, fun W hR => (rd_signed_big base g v bs at_ W hR hx hn V K (by omega) hV hrs).mono ?_⟩
        · rintro en w' ⟨h1, h2⟩
          exact ⟨by rw [h1]; try rfl, h2⟩
        · rintro en w' ⟨h1, h2⟩
          exact ⟨by rw [h1]; try simp, by simpa using h2⟩
    · rw [show stP sg bs (at_, 0) = (0, (at_, (E : Int))) from stP_no (by unfold sg; rw [hrs]; simp [hE]) hE]
      refine ⟨fun W hr hB => (ref_rsigned_err bs _ c at_ A W BB hr hx rfl hB hnc hn hat E hE hrs).mono ?_, fun W hR => (rd_signed_err base g v bs at_ W hR hx hn E hE hrs).mono ?_⟩
      · rintro en w' ⟨h1, h2⟩
        exact ⟨by rw [h1]; try rfl, h2⟩
      · rintro en w' ⟨h1, h2⟩
        exact ⟨by rw [h1]; try simp, by simpa using h2⟩
  · rw [show stP sg bs (at_, e) = (0, (at_, e)) from stP_stop he]
    refine ⟨fun W hr hB => (ref_rsigned_stop _ c at_ A e W he).mono ?_, fun W hR => (rd_signed_stop base g v bs at_ e W hR he).mono ?_⟩
    · rintro en w' ⟨h1, h2⟩
      exact ⟨h1, h2⟩
    · rintro en w' ⟨h1, h2⟩
      exact ⟨by rw [h1]; try simp, by simpa using h2⟩

theorem told_list (most : Nat) : RefT 59 #[.agg #[.slice A bs.length c, .int .i64 (at_ : Int), .int .i64 e], .int .i64 (most : Int)] A bs.length c (stP (ls most) bs (at_, e)).2.1 (stP (ls most) bs (at_, e)).2.2 (.int .i64 (stP (ls most) bs (at_, e)).1) BB bs ∧ RdT 75 #[.int .i64 (most : Int)] base g v bs at_ e (stP (ls most) bs (at_, e)).2.1 (stP (ls most) bs (at_, e)).2.2 (.int .i64 (stP (ls most) bs (at_, e)).1) := by
  have hdx : ∀ x ∈ bs.drop at_, x < 256 := fun x h => hx x (List.mem_of_mem_drop h)
  have hdl : (bs.drop at_).length = bs.length - at_ := List.length_drop
  by_cases he : e = 0
  · subst he
    rcases rs_cases2 (bs.drop at_) hdx with ⟨V, K, hrs, hK, hV⟩ | ⟨E, hE, hrs⟩
    · by_cases hm : (most : Int) < (V : Int)
      · rw [show stP (ls most) bs (at_, 0) = (0, (at_, ((3 : Nat) : Int))) from stP_no (E := 3) (by unfold ls; rw [hrs]; rw [if_neg (by simp), if_pos (by omega)]) (by omega)]
        refine ⟨fun W hr hB => (ref_rlist_most bs _ c at_ A W BB hr hx rfl hB hnc hn hat (most : Int) V K hm hV hrs).mono ?_, fun W hR => (rd_list_most base g v bs at_ (most : Int) W hR hx hn V K hm hV hrs).mono ?_⟩
        · rintro en w' ⟨h1, h2⟩
          exact ⟨by rw [h1]; try rfl, h2⟩
        · rintro en w' ⟨h1, h2⟩
          exact ⟨by rw [h1]; try simp, by simpa using h2⟩
      · by_cases hb : at_ + (K + V) ≤ bs.length
        · rw [show stP (ls most) bs (at_, 0) = ((V : Int), (at_ + K, 0)) from stP_ok (by unfold ls; rw [hrs]; simp only [hdl]; rw [if_neg (by simp), if_neg (by omega), if_neg (by omega)])]
          refine ⟨fun W hr hB => (ref_rlist_yes bs _ c at_ A W BB hr hx rfl hB hnc hn hat (most : Int) V K hm hb hrs).mono ?_, fun W hR => (rd_list_yes base g v bs at_ (most : Int) W hR hx hn V K hm hb hrs).mono ?_⟩
          · rintro en w' ⟨h1, h2⟩
            exact ⟨by rw [h1]; simp, h2⟩
          · rintro en w' ⟨h1, h2⟩
            exact ⟨by rw [h1]; try simp, by simpa using h2⟩
        · rw [show stP (ls most) bs (at_, 0) = (0, (at_, ((2 : Nat) : Int))) from stP_no (E := 2) (by unfold ls; rw [hrs]; simp only [hdl]; rw [if_neg (by simp), if_neg (by omega), if_pos (by omega)]) (by omega)]
          refine ⟨fun W hr hB => (ref_rlist_big bs _ c at_ A W BB hr hx rfl hB hnc hn hat (most : Int) V K hm (by omega) (by omega) hV hrs).mono ?_, fun W hR => (rd_list_big base g v bs at_ (most : Int) W hR hx hn V K hm (by omega) (by omega) hV hrs).mono ?_⟩
          · rintro en w' ⟨h1, h2⟩
            exact ⟨by rw [h1]; try rfl, h2⟩
          · rintro en w' ⟨h1, h2⟩
            exact ⟨by rw [h1]; try simp, by simpa using h2⟩
    · rw [show stP (ls most) bs (at_, 0) = (0, (at_, (E : Int))) from stP_no (by unfold ls; rw [hrs]; simp [hE]) hE]
      refine ⟨fun W hr hB => (ref_rlist_err bs _ c at_ A W BB hr hx rfl hB hnc hn hat (most : Int) E hE hrs).mono ?_, fun W hR => (rd_list_err base g v bs at_ (most : Int) W hR hx hn E hE hrs).mono ?_⟩
      · rintro en w' ⟨h1, h2⟩
        exact ⟨by rw [h1]; try rfl, h2⟩
      · rintro en w' ⟨h1, h2⟩
        exact ⟨by rw [h1]; try simp, by simpa using h2⟩
  · rw [show stP (ls most) bs (at_, e) = (0, (at_, e)) from stP_stop he]
    refine ⟨fun W hr hB => (ref_rlist_stop _ c at_ A e W (most : Int) he).mono ?_, fun W hR => (rd_list_stop base g v bs at_ e (most : Int) W hR he).mono ?_⟩
    · rintro en w' ⟨h1, h2⟩
      exact ⟨h1, h2⟩
    · rintro en w' ⟨h1, h2⟩
      exact ⟨by rw [h1]; try simp, by simpa using h2⟩

theorem told_fixed : RefT 88 #[.agg #[.slice A bs.length c, .int .i64 (at_ : Int), .int .i64 e], .int .i64 ((1 : Nat) : Int)] A bs.length c (stP fx bs (at_, e)).2.1 (stP fx bs (at_, e)).2.2 (.int .u64 (stP fx bs (at_, e)).1) BB bs ∧ RdT 78 #[.int .i64 ((1 : Nat) : Int)] base g v bs at_ e (stP fx bs (at_, e)).2.1 (stP fx bs (at_, e)).2.2 (.int .u64 (stP fx bs (at_, e)).1) := by
  have hdx : ∀ x ∈ bs.drop at_, x < 256 := fun x h => hx x (List.mem_of_mem_drop h)
  have hdl : (bs.drop at_).length = bs.length - at_ := List.length_drop
  have hm : Wide 1 := by unfold Wide; omega
  by_cases he : e = 0
  · subst he
    by_cases hb : at_ + 1 ≤ bs.length
    · rw [show stP fx bs (at_, 0) = ((leV ((bs.drop at_).take 1) : Int), (at_ + 1, 0)) from stP_ok (K := 1) (by unfold fx; rw [if_neg (by rw [hdl]; omega)])]
      refine ⟨fun W hr hB => (ref_fixed_yes bs _ c at_ 1 A W BB hr hx rfl hB hnc hn hb (by omega)).mono ?_, fun W hR => (rd_fixed_yes base g v bs at_ 1 W hR hx hn hm hb).mono ?_⟩
      · rintro en w' ⟨h1, h2⟩
        exact ⟨by rw [h1]; simp, h2⟩
      · rintro en w' ⟨h1, h2⟩
        exact ⟨by rw [h1]; try simp, by simpa using h2⟩
    · rw [show stP fx bs (at_, 0) = (0, (at_, ((2 : Nat) : Int))) from stP_no (E := 2) (by unfold fx; rw [if_pos (by rw [hdl]; omega)]) (by omega)]
      refine ⟨fun W hr hB => (ref_fixed_no bs _ c at_ 1 A W BB hr hB hnc hn hat (by omega)).mono ?_, fun W hR => (rd_fixed_no base g v bs at_ 1 W hR hn hm (by omega)).mono ?_⟩
      · rintro en w' ⟨h1, h2⟩
        exact ⟨by rw [h1]; try rfl, h2⟩
      · rintro en w' ⟨h1, h2⟩
        exact ⟨by rw [h1]; try simp, by simpa using h2⟩
  · rw [show stP fx bs (at_, e) = (0, (at_, e)) from stP_stop he]
    refine ⟨fun W hr hB => (ref_fixed_stop _ c at_ 1 A e W he).mono ?_, fun W hR => (rd_fixed_stop base g v bs at_ 1 e W hR he hm).mono ?_⟩
    · rintro en w' ⟨h1, h2⟩
      exact ⟨h1, h2⟩
    · rintro en w' ⟨h1, h2⟩
      exact ⟨by rw [h1]; try simp, by simpa using h2⟩

end

theorem rd_end_ok2 (base g : Nat) (v : Value) (bs : List Nat) (at_ : Nat) (w : World) (hR : Rd w base g v bs at_ 0) (hlen : bs.length ≤ 140737488355328) (h : at_ = bs.length) :
    Calls Try.prog 50 #[.pointer (some ⟨g, 0, none⟩)] w fun en w' => en = .returned (.int .i64 0) ∧ ∃ k, w' = w.drewN k := by
  have HR := Lib.hid hR
  have H := Lib.hid h
  clear hR h
  go_enter Try.func50, Try.ntmps50
  go_wp2_with fail
  refine (rd_left base g v bs at_ 0 w HR.out hlen).mono ?_
  rintro en w1 ⟨rfl, k, rfl⟩
  have hc := (cell_at (HR.out.drewN k)).2.2.1
  have hle : ¬ 0 < (bs.length : Int) - (at_ : Int) := by have := H.out; omega
  go_wp2_with fail
  go_ret
  exact ⟨rfl, k, rfl⟩

def endE (bs : List Nat) (s : Sx) : Int := if s.2 ≠ 0 then s.2 else if s.1 < bs.length then 3 else 0
theorem rd_end_any (base g : Nat) (v : Value) (bs : List Nat) (s : Sx) (w : World) (hR : Rd w base g v bs s.1 s.2) (hlen : bs.length ≤ 140737488355328) :
    Calls Try.prog 50 #[.pointer (some ⟨g, 0, none⟩)] w fun en w' => en = .returned (.int .i64 (endE bs s)) ∧ Fr (fun i => i = g) w w' := by
  obtain ⟨a, e⟩ := s
  simp only at hR
  unfold endE
  simp only
  by_cases he : e = 0
  · subst he
    rw [if_neg (by simp)]
    by_cases h : a < bs.length
    · rw [if_pos h]
      exact (rd_end_form base g v bs a w hR hlen h).mono fun en w' ⟨h1, k, h2⟩ => ⟨h1, ((Fr.refl _ w).drewN k).trans h2.2 (fun _ _ h => h)⟩
    · rw [if_neg h]
      exact (rd_end_ok2 base g v bs a w hR hlen (by have := hR.2.2; omega)).mono fun en w' h => by obtain ⟨h1, k, rfl⟩ := h; exact ⟨h1, (Fr.refl _ w).drewN k⟩
  · rw [if_pos he]
    exact (rd_end_stop base g v bs a e w hR he hlen).mono fun en w' ⟨h1, h2⟩ => ⟨h1, h2.2⟩
end

section
open Go.RowKit Plain

theorem Rd.grown {w w' : World} {base g at_ b2 size n : Nat} {v u : Value} {bs : List Nat} {e : Int} {T : TypeId} {xs : List Value} (h : Rd w base g v bs at_ e) (ho : w.ownsRow b2 T size u n xs) (hT : T ≠ 110) (hT' : 5 ≠ T) (hg : w.grownBy w' u.ownBlock) : Rd w' base g v bs at_ e :=
  h.fr (Fr.of_grown hg) (fun hs => own_blk_ne ho h.1 hT hs) (fun i hi hs => own_ne h.2.1 ho hT' i hi hs)
theorem Fr.grow {S : Nat → Prop} {w w1 w2 : World} {size n : Nat} {u : Value} {T : TypeId} {xs : List Value} (h : Fr S w w1) (ho : w1.ownsRow w.heap.size T size u n xs) (hg : w1.grownBy w2 u.ownBlock) : Fr S w w2 :=
  h.trans (Fr.of_grown hg) (fun i hi hs => by have := (ho.lt i hs).1; omega)
/-- What stands for a number, an instruction, a row of numbers, a function that was read. -/
def ElI (_w : World) (_B : Nat) (val : Value) (x : Int) : Prop := val = .int .i64 x
def ElN (_w : World) (_B : Nat) (val : Value) (x : IV) : Prop := val = .agg #[.int .i64 x.op, .int .i64 x.a]
def ElL (w : World) (B : Nat) (val : Value) (x : List Int) : Prop := ∃ A c, val = .slice A x.length c ∧ w.ownsRow B 3 1 (.slice A x.length c) x.length (IS x)
def ElF (w : World) (B : Nat) (val : Value) (x : FV) : Prop := ∃ A c, val = .agg #[.int .i64 x.locals, .slice A x.code.length c] ∧ w.ownsRow B 47 2 (.slice A x.code.length c) x.code.length (CS x.code)
/-- Rows of what was read. -/
def RwI (w : World) (B : Nat) (u : Value) (l : List Int) : Prop := w.ownsRow B 3 1 u l.length (IS l)
def RwN (w : World) (B : Nat) (u : Value) (l : List IV) : Prop := w.ownsRow B 47 2 u l.length (CS l)
def RwL (w : World) (B : Nat) (u : Value) (l : List (List Int)) : Prop := ∃ ts : List TL, ts.map TL.l = l ∧ w.ownsRow B 23 1 u l.length (LS ts) ∧ ∀ t ∈ ts, w.ownsRow B 3 1 t.val t.l.length (IS t.l)
def RwF (w : World) (B : Nat) (u : Value) (l : List FV) : Prop := ∃ ts : List TF, ts.map TF.f = l ∧ w.ownsRow B 45 2 u l.length (FS ts) ∧ ∀ t ∈ ts, w.ownsRow B 47 2 t.val t.f.code.length (CS t.f.code)
theorem RwI_slice {w : World} {B : Nat} {u : Value} {l : List Int} (h : RwI w B u l) : ∃ A c, u = .slice A l.length c := by obtain ⟨A, c, h, _, _⟩ := own_slice h; exact ⟨A, c, h⟩
theorem RwN_slice {w : World} {B : Nat} {u : Value} {l : List IV} (h : RwN w B u l) : ∃ A c, u = .slice A l.length c := by obtain ⟨A, c, h, _, _⟩ := own_slice h; exact ⟨A, c, h⟩
theorem RwL_slice {w : World} {B : Nat} {u : Value} {l : List (List Int)} (h : RwL w B u l) : ∃ A c, u = .slice A l.length c := by obtain ⟨_, _, h, _⟩ := h; obtain ⟨A, c, h, _, _⟩ := own_slice h; exact ⟨A, c, h⟩
theorem RwF_slice {w : World} {B : Nat} {u : Value} {l : List FV} (h : RwF w B u l) : ∃ A c, u = .slice A l.length c := by obtain ⟨_, _, h, _⟩ := h; obtain ⟨A, c, h, _, _⟩ := own_slice h; exact ⟨A, c, h⟩

def RdRI (base g : Nat) (v : Value) (bs : List Nat) (w : World) (s1 : Sx) (n : Nat) (s7 s11 : Value) (wr : World) : Prop :=
  ∃ k : Nat, k ≤ n ∧ s11 = .int .i64 (k : Int) ∧ RwI wr w.heap.size s7 (iterP (stP sh bs) k s1).1 ∧ Rd wr base g v bs (iterP (stP sh bs) k s1).2.1 (iterP (stP sh bs) k s1).2.2 ∧ Fr (fun i => i = g) w wr
set_option maxHeartbeats 4000000 in
set_option maxRecDepth 100000 in
theorem readListI (base g m : Nat) (v : Value) (bs : List Nat) (s : Sx) (w : World) (hR : Rd w base g v bs s.1 s.2) (hx : ∀ x ∈ bs, x < 256) (hn : bs.length ≤ 140737488355328) (hm : m ≤ 100)
    (hcl : ∀ (W : World) (s' : Sx), Fr (fun i => i = g) w W → Rd W base g v bs s'.1 s'.2 → Calls Try.prog 46 #[.pointer (some ⟨g, 0, none⟩)] W fun en w' => ∃ val, en = .returned val ∧ ElI w' W.heap.size val ((stP sh bs) s').1 ∧ RdStep base g v bs ((stP sh bs) s').2 W w') :
    Calls Try.prog 47 #[.pointer (some ⟨g, 0, none⟩), .int .i64 (m : Int), .func (.func 46) #[.pointer (some ⟨g, 0, none⟩)] #[]] w fun e w' => ∃ A c, e = .returned (.slice A (listP (stP sh bs) m bs s).1.length c) ∧ RwI w' w.heap.size (.slice A (listP (stP sh bs) m bs s).1.length c) (listP (stP sh bs) m bs s).1 ∧ RdStep base g v bs (listP (stP sh bs) m bs s).2 w w' := by
  obtain ⟨a, e⟩ := s
  simp only at hR
  have hat := hR.2.2
  obtain ⟨i0, hi0, hz0, hz1, hz2⟩ := info_parts info_int
  have hl := (told_list bs bs.length a none e base g v 0 hx (Nat.le_refl _) hn hat m).2 w hR
  obtain ⟨n, hn1, hn2, hn3⟩ := ls_nat m bs (a, e)
  have hlp : listP (stP sh bs) m bs (a, e) = iterP (stP sh bs) n (stP (ls m) bs (a, e)).2 := by unfold listP; rw [hn1]; rfl
  rw [hn1] at hl
  generalize stP (ls m) bs (a, e) = q at *
  obtain ⟨q1, s1⟩ := q
  simp only at hl hlp hn1
  rw [hlp]
  have HCL := Lib.hid hcl
  have HL := Lib.hid hl
  clear hcl hl hlp hn1 hR hat hx
  go_enter Try.func47, Try.ntmps47
  go_wp2_with fail
  refine HL.out.mono ?_
  rintro en w1 ⟨rfl, hr1, hf1⟩
  simp only at hr1
  have HR1 := Lib.hid hr1
  have HF1 := Lib.hid hf1
  clear hr1 hf1
  go_wp2_with fail
  go_loopw [7, 11] (fun s7 s11 wr => RdRI base g v bs w s1 n s7 s11 wr) (fun _ s11 _ => n - (intOf s11).toNat)
  case atStart => exact ⟨0, by omega, rfl, World.ownsRow_nil _ _ _ _, HR1.out, HF1.out⟩
  case round =>
    obtain ⟨k, hk, rfl, hrow, hrd, hfr⟩ := hrel
    have hlen := iterP_length (stP sh bs) k s1
    by_cases hlt : k < n
    · have hnx : iterP (stP sh bs) (k + 1) s1 = ((iterP (stP sh bs) k s1).1 ++ [((stP sh bs) (iterP (stP sh bs) k s1).2).1], ((stP sh bs) (iterP (stP sh bs) k s1).2).2) := rfl
      generalize iterP (stP sh bs) k s1 = it at hrow hrd hlen hnx
      obtain ⟨l, s2⟩ := it
      simp only at hrow hrd hlen hnx
      have hcall := HCL.out wr s2 hfr hrd
      generalize (stP sh bs) s2 = q at hcall hnx
      obtain ⟨x, s3⟩ := q
      simp only at hcall hnx
      unfold RwI at hrow
      rw [hlen] at hrow
      obtain ⟨A, c, rfl, hc, _⟩ := own_slice hrow
      have HBG := Lib.hid hrd.1
      have HROW := Lib.hid hrow
      have HFR := Lib.hid hfr
      have HNX := Lib.hid hnx
      have HLEN := Lib.hid hlen
      have HCALL := Lib.hid hcall
      have hz := hfr.size
      clear hrow hrd hfr hnx hlen hcall
      go_upto_region 4 with fail
      go_wp2_with fail
      refine HCALL.out.mono ?_
      rintro en w6 ⟨val, rfl, rfl, hst⟩
      have HST := Lib.hid hst
      have hz6 := hst.lt
      have HO6 : Hid (w6.ownsRow w.heap.size 3 1 (.slice A k c) k (IS l)) := hst.2.own HROW.out (fun i hi hs => own_blk_ne HROW.out HBG.out (by decide) (hs ▸ hi))
      clear hst
      go_wp2_with (at_builtin; go_must (refine wpList_append_any _ rfl (.tmp 13) (.tmp 16) _ rfl w.heap.size 3 i0 _ 1 8 Try.underlying23 hi0 hz0 hz1 hz2 rfl (by decide) (.slice A k c) k (IS l) rfl (HO6.out.alloc _) (w6.heap.size + 1) (some ⟨w6.heap.size, 0, none⟩) 1 1 [.int .i64 x] rfl (reads_new w6 (.int .i64 x) _) (by intro u hu; simp at hu; first | (subst hu; rfl) | (rcases hu with rfl | rfl <;> rfl)) ?c1 ?c2 ?c3 ?k))
      case c1 => unfold maxLen; omega
      case c2 => omega
      case c3 => simp; omega
      case k =>
      intro v3 w3 hown3 hg3 hat3
      have hfr3 : Fr (fun i => i = g) w w3 := ((HFR.out.trans HST.out.2 (fun _ _ h => h)).alloc _).grow (HO6.out.alloc _) hg3
      have hrd3 : Rd w3 base g v bs s3.1 s3.2 := (HST.out.1.alloc _).grown (HO6.out.alloc _) (by decide) (by decide) hg3
      have HRW : Hid (RwI w3 w.heap.size v3 (l ++ [x])) := by
        show RwI w3 w.heap.size v3 (l ++ [x])
        simpa [RwI, IS, HLEN.out] using hown3
      have HFR3 := Lib.hid hfr3
      have HRD3 := Lib.hid hrd3
      clear hfr3 hrd3 hown3 hg3 hat3
      go_wp2_with fail
      exact ⟨⟨k + 1, by omega, by go_num, by rw [HNX.out]; exact HRW.out, by rw [HNX.out]; exact HRD3.out, HFR3.out⟩, by simp [intOf]; omega⟩
    · obtain rfl : k = n := by omega
      obtain ⟨A, c, rfl⟩ := RwI_slice hrow
      have HROW := Lib.hid hrow
      have HRD := Lib.hid hrd
      have HFR := Lib.hid hfr
      clear hrow hrd hfr hlen
      generalize hit : iterP (stP sh bs) k s1 = it at HROW HRD
      have HIT := Lib.hid hit
      clear hit
      go_wp2_with fail
      go_ret
      rw [HIT.out]
      exact ⟨A, c, rfl, HROW.out, HRD.out, HFR.out⟩

def RdRN (base g : Nat) (v : Value) (bs : List Nat) (w : World) (s1 : Sx) (n : Nat) (s7 s11 : Value) (wr : World) : Prop :=
  ∃ k : Nat, k ≤ n ∧ s11 = .int .i64 (k : Int) ∧ RwN wr w.heap.size s7 (iterP (instrP bs) k s1).1 ∧ Rd wr base g v bs (iterP (instrP bs) k s1).2.1 (iterP (instrP bs) k s1).2.2 ∧ Fr (fun i => i = g) w wr
set_option maxHeartbeats 4000000 in
set_option maxRecDepth 100000 in
theorem readListN (base g m cb : Nat) (v : Value) (bs : List Nat) (s : Sx) (w : World) (hR : Rd w base g v bs s.1 s.2) (hx : ∀ x ∈ bs, x < 256) (hn : bs.length ≤ 140737488355328) (hm : m ≤ 100)
    (hcl : ∀ (W : World) (s' : Sx), Fr (fun i => i = g) w W → Rd W base g v bs s'.1 s'.2 → Calls Try.prog 77 #[.pointer (some ⟨cb, 0, none⟩)] W fun en w' => ∃ val, en = .returned val ∧ ElN w' W.heap.size val ((instrP bs) s').1 ∧ RdStep base g v bs ((instrP bs) s').2 W w') :
    Calls Try.prog 76 #[.pointer (some ⟨g, 0, none⟩), .int .i64 (m : Int), .func (.func 77) #[] #[.pointer (some ⟨cb, 0, none⟩)]] w fun e w' => ∃ A c, e = .returned (.slice A (listP (instrP bs) m bs s).1.length c) ∧ RwN w' w.heap.size (.slice A (listP (instrP bs) m bs s).1.length c) (listP (instrP bs) m bs s).1 ∧ RdStep base g v bs (listP (instrP bs) m bs s).2 w w' := by
  obtain ⟨a, e⟩ := s
  simp only at hR
  have hat := hR.2.2
  obtain ⟨i0, hi0, hz0, hz1, hz2⟩ := info_parts info_instr
  have hl := (told_list bs bs.length a none e base g v 0 hx (Nat.le_refl _) hn hat m).2 w hR
  obtain ⟨n, hn1, hn2, hn3⟩ := ls_nat m bs (a, e)
  have hlp : listP (instrP bs) m bs (a, e) = iterP (instrP bs) n (stP (ls m) bs (a, e)).2 := by unfold listP; rw [hn1]; rfl
  rw [hn1] at hl
  generalize stP (ls m) bs (a, e) = q at *
  obtain ⟨q1, s1⟩ := q
  simp only at hl hlp hn1
  rw [hlp]
  have HCL := Lib.hid hcl
  have HL := Lib.hid hl
  clear hcl hl hlp hn1 hR hat hx
  go_enter Try.func76, Try.ntmps76
  go_wp2_with fail
  refine HL.out.mono ?_
  rintro en w1 ⟨rfl, hr1, hf1⟩
  simp only at hr1
  have HR1 := Lib.hid hr1
  have HF1 := Lib.hid hf1
  clear hr1 hf1
  go_wp2_with fail
  go_loopw [7, 11] (fun s7 s11 wr => RdRN base g v bs w s1 n s7 s11 wr) (fun _ s11 _ => n - (intOf s11).toNat)
  case atStart => exact ⟨0, by omega, rfl, World.ownsRow_nil _ _ _ _, HR1.out, HF1.out⟩
  case round =>
    obtain ⟨k, hk, rfl, hrow, hrd, hfr⟩ := hrel
    have hlen := iterP_length (instrP bs) k s1
    by_cases hlt : k < n
    · have hnx : iterP (instrP bs) (k + 1) s1 = ((iterP (instrP bs) k s1).1 ++ [((instrP bs) (iterP (instrP bs) k s1).2).1], ((instrP bs) (iterP (instrP bs) k s1).2).2) := rfl
      generalize iterP (instrP bs) k s1 = it at hrow hrd hlen hnx
      obtain ⟨l, s2⟩ := it
      simp only at hrow hrd hlen hnx
      have hcall := HCL.out wr s2 hfr hrd
      generalize (instrP bs) s2 = q at hcall hnx
      obtain ⟨x, s3⟩ := q
      simp only at hcall hnx
      unfold RwN at hrow
      rw [hlen] at hrow
      obtain ⟨A, c, rfl, hc, _⟩ := own_slice hrow
      have HBG := Lib.hid hrd.1
      have HROW := Lib.hid hrow
      have HFR := Lib.hid hfr
      have HNX := Lib.hid hnx
      have HLEN := Lib.hid hlen
      have HCALL := Lib.hid hcall
      have hz := hfr.size
      clear hrow hrd hfr hnx hlen hcall
      go_upto_region 4 with fail
      go_wp2_with fail
      refine HCALL.out.mono ?_
      rintro en w6 ⟨val, rfl, rfl, hst⟩
      have HST := Lib.hid hst
      have hz6 := hst.lt
      have HO6 : Hid (w6.ownsRow w.heap.size 47 2 (.slice A k c) k (CS l)) := hst.2.own HROW.out (fun i hi hs => own_blk_ne HROW.out HBG.out (by decide) (hs ▸ hi))
      clear hst
      go_wp2_with (at_builtin; go_must (refine wpList_append_any _ rfl (.tmp 13) (.tmp 16) _ rfl w.heap.size 47 i0 _ 2 16 Try.underlying43 hi0 hz0 hz1 hz2 rfl (by decide) (.slice A k c) k (CS l) rfl (HO6.out.alloc _) (w6.heap.size + 1) (some ⟨w6.heap.size, 0, none⟩) 1 1 [.int .i64 x.op, .int .i64 x.a] rfl (reads_new2 w6 (.int .i64 x.op) (.int .i64 x.a) _) (by intro u hu; simp at hu; first | (subst hu; rfl) | (rcases hu with rfl | rfl <;> rfl)) ?c1 ?c2 ?c3 ?k))
      case c1 => unfold maxLen; omega
      case c2 => omega
      case c3 => simp; omega
      case k =>
      intro v3 w3 hown3 hg3 hat3
      have hfr3 : Fr (fun i => i = g) w w3 := ((HFR.out.trans HST.out.2 (fun _ _ h => h)).alloc _).grow (HO6.out.alloc _) hg3
      have hrd3 : Rd w3 base g v bs s3.1 s3.2 := (HST.out.1.alloc _).grown (HO6.out.alloc _) (by decide) (by decide) hg3
      have HRW : Hid (RwN w3 w.heap.size v3 (l ++ [x])) := by
        show RwN w3 w.heap.size v3 (l ++ [x])
        simpa [RwN, CS, flat2, HLEN.out] using hown3
      have HFR3 := Lib.hid hfr3
      have HRD3 := Lib.hid hrd3
      clear hfr3 hrd3 hown3 hg3 hat3
      go_wp2_with fail
      exact ⟨⟨k + 1, by omega, by go_num, by rw [HNX.out]; exact HRW.out, by rw [HNX.out]; exact HRD3.out, HFR3.out⟩, by simp [intOf]; omega⟩
    · obtain rfl : k = n := by omega
      obtain ⟨A, c, rfl⟩ := RwN_slice hrow
      have HROW := Lib.hid hrow
      have HRD := Lib.hid hrd
      have HFR := Lib.hid hfr
      clear hrow hrd hfr hlen
      generalize hit : iterP (instrP bs) k s1 = it at HROW HRD
      have HIT := Lib.hid hit
      clear hit
      go_wp2_with fail
      go_ret
      rw [HIT.out]
      exact ⟨A, c, rfl, HROW.out, HRD.out, HFR.out⟩

def RdRL (base g : Nat) (v : Value) (bs : List Nat) (w : World) (s1 : Sx) (n : Nat) (s7 s11 : Value) (wr : World) : Prop :=
  ∃ k : Nat, k ≤ n ∧ s11 = .int .i64 (k : Int) ∧ RwL wr w.heap.size s7 (iterP (intsP bs) k s1).1 ∧ Rd wr base g v bs (iterP (intsP bs) k s1).2.1 (iterP (intsP bs) k s1).2.2 ∧ Fr (fun i => i = g) w wr
set_option maxHeartbeats 4000000 in
set_option maxRecDepth 100000 in
theorem readListL (base g m cb : Nat) (v : Value) (bs : List Nat) (s : Sx) (w : World) (hR : Rd w base g v bs s.1 s.2) (hx : ∀ x ∈ bs, x < 256) (hn : bs.length ≤ 140737488355328) (hm : m ≤ 100)
    (hcl : ∀ (W : World) (s' : Sx), Fr (fun i => i = g) w W → Rd W base g v bs s'.1 s'.2 → Calls Try.prog 49 #[.pointer (some ⟨cb, 0, none⟩)] W fun en w' => ∃ val, en = .returned val ∧ ElL w' W.heap.size val ((intsP bs) s').1 ∧ RdStep base g v bs ((intsP bs) s').2 W w') :
    Calls Try.prog 48 #[.pointer (some ⟨g, 0, none⟩), .int .i64 (m : Int), .func (.func 49) #[] #[.pointer (some ⟨cb, 0, none⟩)]] w fun e w' => ∃ A c, e = .returned (.slice A (listP (intsP bs) m bs s).1.length c) ∧ RwL w' w.heap.size (.slice A (listP (intsP bs) m bs s).1.length c) (listP (intsP bs) m bs s).1 ∧ RdStep base g v bs (listP (intsP bs) m bs s).2 w w' := by
  obtain ⟨a, e⟩ := s
  simp only at hR
  have hat := hR.2.2
  obtain ⟨i0, hi0, hz0, hz1, hz2⟩ := info_parts info_ints
  have hl := (told_list bs bs.length a none e base g v 0 hx (Nat.le_refl _) hn hat m).2 w hR
  obtain ⟨n, hn1, hn2, hn3⟩ := ls_nat m bs (a, e)
  have hlp : listP (intsP bs) m bs (a, e) = iterP (intsP bs) n (stP (ls m) bs (a, e)).2 := by unfold listP; rw [hn1]; rfl
  rw [hn1] at hl
  generalize stP (ls m) bs (a, e) = q at *
  obtain ⟨q1, s1⟩ := q
  simp only at hl hlp hn1
  rw [hlp]
  have HCL := Lib.hid hcl
  have HL := Lib.hid hl
  clear hcl hl hlp hn1 hR hat hx
  go_enter Try.func48, Try.ntmps48
  go_wp2_with fail
  refine HL.out.mono ?_
  rintro en w1 ⟨rfl, hr1, hf1⟩
  simp only at hr1
  have HR1 := Lib.hid hr1
  have HF1 := Lib.hid hf1
  clear hr1 hf1
  go_wp2_with fail
  go_loopw [7, 11] (fun s7 s11 wr => RdRL base g v bs w s1 n s7 s11 wr) (fun _ s11 _ => n - (intOf s11).toNat)
  case atStart => exact ⟨0, by omega, rfl, ⟨[], rfl, World.ownsRow_nil _ _ _ _, by simp⟩, HR1.out, HF1.out⟩
  case round =>
    obtain ⟨k, hk, rfl, hrow, hrd, hfr⟩ := hrel
    have hlen := iterP_length (intsP bs) k s1
    by_cases hlt : k < n
    · have hnx : iterP (intsP bs) (k + 1) s1 = ((iterP (intsP bs) k s1).1 ++ [((intsP bs) (iterP (intsP bs) k s1).2).1], ((intsP bs) (iterP (intsP bs) k s1).2).2) := rfl
      generalize iterP (intsP bs) k s1 = it at hrow hrd hlen hnx
      obtain ⟨l, s2⟩ := it
      simp only at hrow hrd hlen hnx
      have hcall := HCL.out wr s2 hfr hrd
      generalize (intsP bs) s2 = q at hcall hnx
      obtain ⟨x, s3⟩ := q
      simp only at hcall hnx
      obtain ⟨ts, hts, hrow, hall⟩ := hrow
      rw [hlen] at hrow
      have htl : ts.length = k := by rw [← hlen, ← hts, List.length_map]
      obtain ⟨A, c, rfl, hc, _⟩ := own_slice hrow
      have HTS := Lib.hid hts
      have HALL := Lib.hid hall
      have HTL := Lib.hid htl
      clear hts hall htl
      have HBG := Lib.hid hrd.1
      have HROW := Lib.hid hrow
      have HFR := Lib.hid hfr
      have HNX := Lib.hid hnx
      have HLEN := Lib.hid hlen
      have HCALL := Lib.hid hcall
      have hz := hfr.size
      clear hrow hrd hfr hnx hlen hcall
      go_upto_region 4 with fail
      go_wp2_with fail
      refine HCALL.out.mono ?_
      rintro en w6 ⟨val, rfl, ⟨A6, c6, rfl, ho6⟩, hst⟩
      have HST := Lib.hid hst
      have hz6 := hst.lt
      have HO6 : Hid (w6.ownsRow w.heap.size 23 1 (.slice A k c) k (LS ts)) := hst.2.own HROW.out (fun i hi hs => own_blk_ne HROW.out HBG.out (by decide) (hs ▸ hi))
      have HO := Lib.hid ho6
      clear ho6
      clear hst
      go_wp2_with (at_builtin; go_must (refine wpList_append_any _ rfl (.tmp 13) (.tmp 16) _ rfl w.heap.size 23 i0 _ 1 24 Try.underlying24 hi0 hz0 hz1 hz2 rfl (by decide) (.slice A k c) k (LS ts) rfl (HO6.out.alloc _) (w6.heap.size + 1) (some ⟨w6.heap.size, 0, none⟩) 1 1 [.slice A6 x.length c6] rfl (reads_new w6 (.slice A6 x.length c6) _) (by intro u hu; simp at hu; first | (subst hu; rfl) | (rcases hu with rfl | rfl <;> rfl)) ?c1 ?c2 ?c3 ?k))
      case c1 => unfold maxLen; omega
      case c2 => omega
      case c3 => simp; omega
      case k =>
      intro v3 w3 hown3 hg3 hat3
      have hfr3 : Fr (fun i => i = g) w w3 := ((HFR.out.trans HST.out.2 (fun _ _ h => h)).alloc _).grow (HO6.out.alloc _) hg3
      have hrd3 : Rd w3 base g v bs s3.1 s3.2 := (HST.out.1.alloc _).grown (HO6.out.alloc _) (by decide) (by decide) hg3
      have HRW : Hid (RwL w3 w.heap.size v3 (l ++ [x])) := by
        show RwL w3 w.heap.size v3 (l ++ [x])
        refine ⟨ts ++ [⟨x, A6, c6⟩], by rw [List.map_append, HTS.out]; rfl, by simpa [LS, TL.val, HLEN.out] using hown3, fun t ht => ?_⟩
        have hin : ∀ (B2 : Nat) (t : TL), w.heap.size ≤ B2 → w6.ownsRow B2 3 1 t.val t.l.length (IS t.l) → w3.ownsRow w.heap.size 3 1 t.val t.l.length (IS t.l) := fun B2 t hB ho => 
          own_mono ((Fr.of_grown hg3).own (ho.alloc _) (fun i hi hs => own_ne ho HO6.out (by decide) i hi hs)) hB
        rcases List.mem_append.1 ht with ht | ht
        · exact hin _ t (Nat.le_refl _) (HST.out.2.own (HALL.out t ht) (fun i hi hs => own_blk_ne (HALL.out t ht) HBG.out (by decide) (hs ▸ hi)))
        · simp at ht
          subst ht
          exact hin _ _ hz HO.out
      have HFR3 := Lib.hid hfr3
      have HRD3 := Lib.hid hrd3
      clear hfr3 hrd3 hown3 hg3 hat3
      go_wp2_with fail
      exact ⟨⟨k + 1, by omega, by go_num, by rw [HNX.out]; exact HRW.out, by rw [HNX.out]; exact HRD3.out, HFR3.out⟩, by simp [intOf]; omega⟩
    · obtain rfl : k = n := by omega
      obtain ⟨A, c, rfl⟩ := RwL_slice hrow
      have HROW := Lib.hid hrow
      have HRD := Lib.hid hrd
      have HFR := Lib.hid hfr
      clear hrow hrd hfr hlen
      generalize hit : iterP (intsP bs) k s1 = it at HROW HRD
      have HIT := Lib.hid hit
      clear hit
      go_wp2_with fail
      go_ret
      rw [HIT.out]
      exact ⟨A, c, rfl, HROW.out, HRD.out, HFR.out⟩

def RdRF (base g : Nat) (v : Value) (bs : List Nat) (w : World) (s1 : Sx) (n : Nat) (s7 s11 : Value) (wr : World) : Prop :=
  ∃ k : Nat, k ≤ n ∧ s11 = .int .i64 (k : Int) ∧ RwF wr w.heap.size s7 (iterP (funcP bs) k s1).1 ∧ Rd wr base g v bs (iterP (funcP bs) k s1).2.1 (iterP (funcP bs) k s1).2.2 ∧ Fr (fun i => i = g) w wr
set_option maxHeartbeats 4000000 in
set_option maxRecDepth 100000 in
theorem readListF (base g m cb : Nat) (v : Value) (bs : List Nat) (s : Sx) (w : World) (hR : Rd w base g v bs s.1 s.2) (hx : ∀ x ∈ bs, x < 256) (hn : bs.length ≤ 140737488355328) (hm : m ≤ 100)
    (hcl : ∀ (W : World) (s' : Sx), Fr (fun i => i = g) w W → Rd W base g v bs s'.1 s'.2 → Calls Try.prog 44 #[.pointer (some ⟨cb, 0, none⟩)] W fun en w' => ∃ val, en = .returned val ∧ ElF w' W.heap.size val ((funcP bs) s').1 ∧ RdStep base g v bs ((funcP bs) s').2 W w') :
    Calls Try.prog 43 #[.pointer (some ⟨g, 0, none⟩), .int .i64 (m : Int), .func (.func 44) #[] #[.pointer (some ⟨cb, 0, none⟩)]] w fun e w' => ∃ A c, e = .returned (.slice A (listP (funcP bs) m bs s).1.length c) ∧ RwF w' w.heap.size (.slice A (listP (funcP bs) m bs s).1.length c) (listP (funcP bs) m bs s).1 ∧ RdStep base g v bs (listP (funcP bs) m bs s).2 w w' := by
  obtain ⟨a, e⟩ := s
  simp only at hR
  have hat := hR.2.2
  obtain ⟨i0, hi0, hz0, hz1, hz2⟩ := info_parts info_func
  have hl := (told_list bs bs.length a none e base g v 0 hx (Nat.le_refl _) hn hat m).2 w hR
  obtain ⟨n, hn1, hn2, hn3⟩ := ls_nat m bs (a, e)
  have hlp : listP (funcP bs) m bs (a, e) = iterP (funcP bs) n (stP (ls m) bs (a, e)).2 := by unfold listP; rw [hn1]; rfl
  rw [hn1] at hl
  generalize stP (ls m) bs (a, e) = q at *
  obtain ⟨q1, s1⟩ := q
  simp only at hl hlp hn1
  rw [hlp]
  have HCL := Lib.hid hcl
  have HL := Lib.hid hl
  clear hcl hl hlp hn1 hR hat hx
  go_enter Try.func43, Try.ntmps43
  go_wp2_with fail
  refine HL.out.mono ?_
  rintro en w1 ⟨rfl, hr1, hf1⟩
  simp only at hr1
  have HR1 := Lib.hid hr1
  have HF1 := Lib.hid hf1
  clear hr1 hf1
  go_wp2_with fail
  go_loopw [7, 11] (fun s7 s11 wr => RdRF base g v bs w s1 n s7 s11 wr) (fun _ s11 _ => n - (intOf s11).toNat)
  case atStart => exact ⟨0, by omega, rfl, ⟨[], rfl, World.ownsRow_nil _ _ _ _, by simp⟩, HR1.out, HF1.out⟩
  case round =>
    obtain ⟨k, hk, rfl, hrow, hrd, hfr⟩ := hrel
    have hlen := iterP_length (funcP bs) k s1
    by_cases hlt : k < n
    · have hnx : iterP (funcP bs) (k + 1) s1 = ((iterP (funcP bs) k s1).1 ++ [((funcP bs) (iterP (funcP bs) k s1).2).1], ((funcP bs) (iterP (funcP bs) k s1).2).2) := rfl
      generalize iterP (funcP bs) k s1 = it at hrow hrd hlen hnx
      obtain ⟨l, s2⟩ := it
      simp only at hrow hrd hlen hnx
      have hcall := HCL.out wr s2 hfr hrd
      generalize (funcP bs) s2 = q at hcall hnx
      obtain ⟨x, s3⟩ := q
      simp only at hcall hnx
      obtain ⟨ts, hts, hrow, hall⟩ := hrow
      rw [hlen] at hrow
      have htl : ts.length = k := by rw [← hlen, ← hts, List.length_map]
      obtain ⟨A, c, rfl, hc, _⟩ := own_slice hrow
      have HTS := Lib.hid hts
      have HALL := Lib.hid hall
      have HTL := Lib.hid htl
      clear hts hall htl
      have HBG := Lib.hid hrd.1
      have HROW := Lib.hid hrow
      have HFR := Lib.hid hfr
      have HNX := Lib.hid hnx
      have HLEN := Lib.hid hlen
      have HCALL := Lib.hid hcall
      have hz := hfr.size
      clear hrow hrd hfr hnx hlen hcall
      go_upto_region 4 with fail
      go_wp2_with fail
      refine HCALL.out.mono ?_
      rintro en w6 ⟨val, rfl, ⟨A6, c6, rfl, ho6⟩, hst⟩
      have HST := Lib.hid hst
      have hz6 := hst.lt
      have HO6 : Hid (w6.ownsRow w.heap.size 45 2 (.slice A k c) k (FS ts)) := hst.2.own HROW.out (fun i hi hs => own_blk_ne HROW.out HBG.out (by decide) (hs ▸ hi))
      have HO := Lib.hid ho6
      clear ho6
      clear hst
      go_wp2_with (at_builtin; go_must (refine wpList_append_any _ rfl (.tmp 13) (.tmp 16) _ rfl w.heap.size 45 i0 _ 2 32 Try.underlying22 hi0 hz0 hz1 hz2 rfl (by decide) (.slice A k c) k (FS ts) rfl (HO6.out.alloc _) (w6.heap.size + 1) (some ⟨w6.heap.size, 0, none⟩) 1 1 [.int .i64 x.locals, .slice A6 x.code.length c6] rfl (reads_new2 w6 (.int .i64 x.locals) (.slice A6 x.code.length c6) _) (by intro u hu; simp at hu; first | (subst hu; rfl) | (rcases hu with rfl | rfl <;> rfl)) ?c1 ?c2 ?c3 ?k))
      case c1 => unfold maxLen; omega
      case c2 => omega
      case c3 => simp; omega
      case k =>
      intro v3 w3 hown3 hg3 hat3
      have hfr3 : Fr (fun i => i = g) w w3 := ((HFR.out.trans HST.out.2 (fun _ _ h => h)).alloc _).grow (HO6.out.alloc _) hg3
      have hrd3 : Rd w3 base g v bs s3.1 s3.2 := (HST.out.1.alloc _).grown (HO6.out.alloc _) (by decide) (by decide) hg3
      have HRW : Hid (RwF w3 w.heap.size v3 (l ++ [x])) := by
        show RwF w3 w.heap.size v3 (l ++ [x])
        refine ⟨ts ++ [⟨x, A6, c6⟩], by rw [List.map_append, HTS.out]; rfl, by simpa [FS, flat2, TF.cells, TF.val, HLEN.out] using hown3, fun t ht => ?_⟩
        have hin : ∀ (B2 : Nat) (t : TF), w.heap.size ≤ B2 → w6.ownsRow B2 47 2 t.val t.f.code.length (CS t.f.code) → w3.ownsRow w.heap.size 47 2 t.val t.f.code.length (CS t.f.code) := fun B2 t hB ho => 
          own_mono ((Fr.of_grown hg3).own (ho.alloc _) (fun i hi hs => own_ne ho HO6.out (by decide) i hi hs)) hB
        rcases List.mem_append.1 ht with ht | ht
        · exact hin _ t (Nat.le_refl _) (HST.out.2.own (HALL.out t ht) (fun i hi hs => own_blk_ne (HALL.out t ht) HBG.out (by decide) (hs ▸ hi)))
        · simp at ht
          subst ht
          exact hin _ _ hz HO.out
      have HFR3 := Lib.hid hfr3
      have HRD3 := Lib.hid hrd3
      clear hfr3 hrd3 hown3 hg3 hat3
      go_wp2_with fail
      exact ⟨⟨k + 1, by omega, by go_num, by rw [HNX.out]; exact HRW.out, by rw [HNX.out]; exact HRD3.out, HFR3.out⟩, by simp [intOf]; omega⟩
    · obtain rfl : k = n := by omega
      obtain ⟨A, c, rfl⟩ := RwF_slice hrow
      have HROW := Lib.hid hrow
      have HRD := Lib.hid hrd
      have HFR := Lib.hid hfr
      clear hrow hrd hfr hlen
      generalize hit : iterP (funcP bs) k s1 = it at HROW HRD
      have HIT := Lib.hid hit
      clear hit
      go_wp2_with fail
      go_ret
      rw [HIT.out]
      exact ⟨A, c, rfl, HROW.out, HRD.out, HFR.out⟩
end

section
open Go.RowKit Plain

theorem fx_small {bs : List Nat} (hx : ∀ x ∈ bs, x < 256) (s : Sx) : 0 ≤ (stP fx bs s).1 ∧ (stP fx bs s).1 ≤ 255 := by
  unfold stP orZ
  simp only
  split
  · unfold fx
    split
    · simp
    · have := leV_lt ((bs.drop s.1).take 1) (fun x h => hx x (List.mem_of_mem_drop (List.mem_of_mem_take h)))
      have h1 : ((bs.drop s.1).take 1).length ≤ 1 := by simp; omega
      have h2 : 256 ^ ((bs.drop s.1).take 1).length ≤ 256 ^ 1 := Nat.pow_le_pow_right (by omega) h1
      simp only
      omega
  · omega
theorem RdStep.trans {base g : Nat} {v : Value} {bs : List Nat} {p q : Nat × Int} {w w1 w2 : World} (h : RdStep base g v bs p w w1) (h2 : RdStep base g v bs q w1 w2) : RdStep base g v bs q w w2 := ⟨h2.1, h.2.trans h2.2 (fun _ _ h => h)⟩
theorem RdStep.alloc_l {base g : Nat} {v : Value} {bs : List Nat} {p : Nat × Int} {w w1 : World} {o : Obj} (h : RdStep base g v bs p (w.alloc o) w1) : RdStep base g v bs p w w1 := ⟨h.1, ((Fr.refl (fun i => i = g) w).alloc o).trans h.2 (fun _ _ h => h)⟩
theorem RdStep.set {base g : Nat} {v : Value} {bs : List Nat} {p : Nat × Int} {w w1 : World} {b : Nat} {T : TypeId} {cs : Array Value} (h : RdStep base g v bs p w w1) (hb : Blk w1 b T cs) (hT : 110 ≠ T) (hT' : 5 ≠ T) (hw : w.heap.size ≤ b) (i : Nat) (u : Value) : RdStep base g v bs p w (w1.setCell ⟨b, i, none⟩ u) :=
  ⟨h.1.fr ((Fr.refl (fun j => j = b) w1).setCell (p := ⟨b, i, none⟩) (.inl rfl) u) (Blk.ne_ h.1.1 hb hT) (fun i hi hs => own_blk_ne h.1.2.1 hb hT' (hs ▸ hi)), h.2.setCell (.inr hw) u⟩
theorem RdStep.set2 {base g : Nat} {v : Value} {bs : List Nat} {p : Nat × Int} {w w1 : World} {b : Nat} {T : TypeId} {cs : Array Value} (h : RdStep base g v bs p w w1) (hb : Blk w1 b T cs) (hT : 110 ≠ T) (hT' : 5 ≠ T) (hw : w.heap.size ≤ b) (u u' : Value) : RdStep base g v bs p w ((w1.setCell ⟨b, 0, none⟩ u).setCell ⟨b, 1, none⟩ u') :=
  (h.set hb hT hT' hw 0 u).set (hb.set_ 0 u) hT hT' hw 1 u'
theorem own_set2 {w : World} {base size n b : Nat} {T e : TypeId} {cs : Array Value} {v : Value} {xs : List Value} (ho : w.ownsRow base e size v n xs) (hb : Blk w b T cs) (hT : e ≠ T) (u u' : Value) : ((w.setCell ⟨b, 0, none⟩ u).setCell ⟨b, 1, none⟩ u').ownsRow base e size v n xs :=
  (((Fr.refl (fun j => j = b) w).setCell (p := ⟨b, 0, none⟩) (.inl rfl) u).setCell (p := ⟨b, 1, none⟩) (.inl rfl) u').own ho (fun i hi hs => own_blk_ne ho hb hT (hs ▸ hi))
theorem Fr.of_eq {S : Nat → Prop} {w w1 : World} (h : w = w1) : Fr S w w1 := h ▸ Fr.refl S w

set_option maxHeartbeats 4000000 in
set_option maxRecDepth 100000 in
theorem readInstr (base g cb : Nat) (v : Value) (bs : List Nat) (s : Sx) (w : World) (hR : Rd w base g v bs s.1 s.2) (hb : Blk w cb 72 #[.pointer (some ⟨g, 0, none⟩)]) (hx : ∀ x ∈ bs, x < 256) (hn : bs.length ≤ 140737488355328) :
    Calls Try.prog 77 #[.pointer (some ⟨cb, 0, none⟩)] w fun en w' => ∃ val, en = .returned val ∧ ElN w' w.heap.size val (instrP bs s).1 ∧ RdStep base g v bs (instrP bs s).2 w w' := by
  have hcg : cb ≠ g := Blk.ne_ hb hR.1 (by decide)
  obtain ⟨a, e⟩ := s
  simp only at hR
  have hat := hR.2.2
  have hf0 := fx_small hx (a, e)
  have hle := stP_le goes_fx hx (s := (a, e)) hat
  have h1 := (told_fixed bs bs.length a none e base g v 0 hx (Nat.le_refl _) hn hat).2
  have h2 := (told_signed bs bs.length (stP fx bs (a, e)).2.1 none (stP fx bs (a, e)).2.2 base g v 0 hx (Nat.le_refl _) hn hle).2
  unfold instrP
  generalize stP fx bs (a, e) = q at *
  obtain ⟨x, s1⟩ := q
  obtain ⟨a1, e1⟩ := s1
  simp only at *
  generalize stP sg bs (a1, e1) = q2 at *
  obtain ⟨y, s2⟩ := q2
  simp only at *
  obtain ⟨hx0, hx1⟩ := hf0
  have H1 := Lib.hid h1; have H2 := Lib.hid h2; have HR := Lib.hid hR; have HB := Lib.hid hb
  clear h1 h2 hR hb hat hle hx
  go_enter Try.func77, Try.ntmps77
  have hcz : cb < w.heap.size := HB.out.lt
  have c0 : w.cell? ⟨cb, 0, none⟩ = some (.pointer (some ⟨g, 0, none⟩)) := (HB.out.cell 0).trans rfl
  go_wp2_with fail
  refine (H1.out _ (HR.out.alloc _)).mono ?_
  rintro en w1 ⟨rfl, hr1, hf1⟩
  simp only at hr1
  have c1 : w1.cell? ⟨cb, 0, none⟩ = some (.pointer (some ⟨g, 0, none⟩)) := ((hf1.blk (HB.out.alloc _) hcg).cell 0).trans rfl
  have hbk : Blk w1 w.heap.size 47 #[.int .i64 0, .int .i64 0] := hf1.blk (Blk.new w _ _) (by have := HR.out.lt; omega)
  have HBK := Lib.hid hbk; have HR1 := Lib.hid hr1; have HF1 := Lib.hid hf1
  clear hbk hr1 hf1 c0
  go_wp2_with fail
  refine (H2.out _ HR1.out).mono ?_
  rintro en w2 ⟨rfl, hr2, hf2⟩
  simp only at hr2
  have hbk2 := hf2.blk HBK.out (by have := HR.out.lt; omega)
  have hz2 : w.heap.size < w2.heap.size := hbk2.lt
  have e0 := hbk2.frozen 0
  have e1 := hbk2.frozen 1
  have d0 := (hbk2.cell 0).trans rfl
  have d1 := (hbk2.cell 1).trans rfl
  have HBK2 := Lib.hid hbk2; have HR2 := Lib.hid hr2; have HF2 := Lib.hid hf2
  clear hbk2 hr2 hf2 c1
  go_wp2_with fail
  refine bodyPost_ret (v := .agg #[.int .i64 x, .int .i64 y]) (by simp [results, Try.results77, go_sem, d0, d1, e0, e1, hz2]) rfl ⟨_, rfl, rfl, ?_⟩
  exact RdStep.set2 ⟨HR2.out, (((Fr.refl (fun i => i = g) w).alloc _).trans HF1.out (fun _ _ h => h)).trans HF2.out (fun _ _ h => h)⟩ HBK2.out (by decide) (by decide) (Nat.le_refl _) _ _

set_option maxHeartbeats 4000000 in
theorem readIntsF (base g cb : Nat) (v : Value) (bs : List Nat) (s : Sx) (w : World) (hR : Rd w base g v bs s.1 s.2) (hb : Blk w cb 72 #[.pointer (some ⟨g, 0, none⟩)]) (hx : ∀ x ∈ bs, x < 256) (hn : bs.length ≤ 140737488355328) :
    Calls Try.prog 49 #[.pointer (some ⟨cb, 0, none⟩)] w fun en w' => ∃ val, en = .returned val ∧ ElL w' w.heap.size val (intsP bs s).1 ∧ RdStep base g v bs (intsP bs s).2 w w' := by
  have c0 : w.cell? ⟨cb, 0, none⟩ = some (.pointer (some ⟨g, 0, none⟩)) := (hb.cell 0).trans rfl
  have h1 := readListI base g 8 v bs s w hR hx hn (by omega) (fun W s' hf hr => ((told_short bs bs.length s'.1 none s'.2 base g v 0 hx (Nat.le_refl _) hn hr.2.2).2 W hr).mono fun en w' h => ⟨_, h.1, rfl, h.2⟩)
  have H1 := Lib.hid h1
  clear h1 hR hb
  go_enter Try.func49, Try.ntmps49
  go_wp2_with fail
  refine H1.out.mono ?_
  rintro en w1 ⟨A, c, rfl, hrw, hst⟩
  have HRW := Lib.hid hrw; have HST := Lib.hid hst
  clear hrw hst c0
  go_wp2_with fail
  go_ret
  exact ⟨_, rfl, ⟨A, c, rfl, HRW.out⟩, HST.out⟩

set_option maxHeartbeats 4000000 in
theorem readFunc_ (base g : Nat) (v : Value) (bs : List Nat) (s : Sx) (w : World) (hR : Rd w base g v bs s.1 s.2) (hx : ∀ x ∈ bs, x < 256) (hn : bs.length ≤ 140737488355328) :
    Calls Try.prog 45 #[.pointer (some ⟨g, 0, none⟩)] w fun en w' => ∃ val, en = .returned val ∧ ElF w' w.heap.size val (funcP bs s).1 ∧ RdStep base g v bs (funcP bs s).2 w w' := by
  obtain ⟨a, e⟩ := s
  simp only at hR
  have hat := hR.2.2
  have hfit := stP_fit goes_sh hx (a, e)
  have h1 := (told_short bs bs.length a none e base g v 0 hx (Nat.le_refl _) hn hat).2
  unfold funcP
  generalize stP sh bs (a, e) = q at *
  obtain ⟨x, s1⟩ := q
  simp only at *
  have h2 : ∀ W cb, Rd W base g v bs s1.1 s1.2 → Blk W cb 72 #[.pointer (some ⟨g, 0, none⟩)] → _ := fun W cb hr hb => readListN base g 64 cb v bs s1 W hr hx hn (by omega) (fun W' s' hf hr' => readInstr base g cb v bs s' W' hr' (hf.blk hb (Blk.ne_ hb hr.1 (by decide))) hx hn)
  generalize listP (instrP bs) 64 bs s1 = q2 at *
  obtain ⟨l, s2⟩ := q2
  simp only at *
  have H1 := Lib.hid h1; have H2 := Lib.hid h2; have HR := Lib.hid hR
  clear h1 h2 hR hat hx
  have hgz : g < w.heap.size := HR.out.lt
  go_enter Try.func45, Try.ntmps45
  go_wp2_with fail
  refine (H1.out _ ((HR.out.alloc _).alloc _)).mono ?_
  rintro en w1 ⟨rfl, hr1, hf1⟩
  simp only at hr1
  have hbk0 : Blk w1 w.heap.size 72 #[.pointer (some ⟨g, 0, none⟩)] := hf1.blk ((Blk.new w _ _).alloc _) (by omega)
  have hbk1 : Blk w1 (w.heap.size + 1) 45 #[.int .i64 0, .slice none 0 0] := hf1.blk (by simpa using Blk.new (w.alloc (.cells #[.pointer (some ⟨g, 0, none⟩)] 72)) _ _) (by omega)
  have c1 := (hbk0.cell 0).trans rfl
  have hz1 := hbk1.lt
  have HK0 := Lib.hid hbk0; have HK1 := Lib.hid hbk1; have HR1 := Lib.hid hr1; have HF1 := Lib.hid hf1
  clear hbk0 hbk1 hr1 hf1
  go_wp2_with fail
  refine (H2.out w1 _ HR1.out HK0.out).mono ?_
  rintro en w2 ⟨A, c, rfl, hrw, hst⟩
  have hbk2 := hst.2.blk HK1.out (by omega)
  have hz2 : w.heap.size + 1 < w2.heap.size := hbk2.lt
  have e0 := hbk2.frozen 0
  have e1 := hbk2.frozen 1
  have d0 := (hbk2.cell 0).trans rfl
  have d1 := (hbk2.cell 1).trans rfl
  have HB2 := Lib.hid hbk2; have HRW := Lib.hid hrw; have HST := Lib.hid hst
  clear hbk2 hrw hst c1
  go_wp2_with fail
  refine bodyPost_ret (v := .agg #[.int .i64 x, .slice A l.length c]) (by simp [results, Try.results45, go_sem, d0, d1, e0, e1, hz2]) rfl ⟨_, rfl, ⟨A, c, rfl, ?_⟩, ?_⟩
  · exact own_set2 (own_mono HRW.out (by omega)) HB2.out (by decide) _ _
  · exact RdStep.set2 ⟨HST.out.1, ((((Fr.refl (fun i => i = g) w).alloc _).alloc _).trans HF1.out (fun _ _ h => h)).trans HST.out.2 (fun _ _ h => h)⟩ HB2.out (by decide) (by decide) (by omega) _ _

set_option maxHeartbeats 4000000 in
theorem readFuncF (base g cb : Nat) (v : Value) (bs : List Nat) (s : Sx) (w : World) (hR : Rd w base g v bs s.1 s.2) (hb : Blk w cb 72 #[.pointer (some ⟨g, 0, none⟩)]) (hx : ∀ x ∈ bs, x < 256) (hn : bs.length ≤ 140737488355328) :
    Calls Try.prog 44 #[.pointer (some ⟨cb, 0, none⟩)] w fun en w' => ∃ val, en = .returned val ∧ ElF w' w.heap.size val (funcP bs s).1 ∧ RdStep base g v bs (funcP bs s).2 w w' := by
  have c0 : w.cell? ⟨cb, 0, none⟩ = some (.pointer (some ⟨g, 0, none⟩)) := (hb.cell 0).trans rfl
  have hcz := hb.lt
  have H1 := Lib.hid (fun W hr => readFunc_ base g v bs s W hr hx hn)
  generalize funcP bs s = q at *
  obtain ⟨f, s2⟩ := q
  have HR := Lib.hid hR
  have hgz : g < w.heap.size := hR.lt
  clear hR hb
  go_enter Try.func44, Try.ntmps44
  go_wp2_with fail
  refine (H1.out _ (HR.out.alloc _)).mono ?_
  rintro en w1 ⟨val, rfl, ⟨A, c, rfl, ho⟩, hst⟩
  have hbk := hst.2.blk (Blk.new w 45 _) (by omega)
  have hz1 := hbk.lt
  have e0 := hbk.frozen 0
  have e1 := hbk.frozen 1
  have d0 := (hbk.cell 0).trans rfl
  have d1 := (hbk.cell 1).trans rfl
  have HB2 := Lib.hid hbk; have HRW := Lib.hid ho; have HST := Lib.hid hst
  clear hbk ho hst c0
  go_wp2_with fail
  refine bodyPost_ret (v := .agg #[.int .i64 f.locals, .slice A f.code.length c]) (by simp [results, Try.results44, go_sem, d0, d1, e0, e1, hz1]) rfl ⟨_, rfl, ⟨A, c, rfl, ?_⟩, ?_⟩
  · exact own_set2 (own_mono HRW.out (by simp)) HB2.out (by decide) _ _
  · exact RdStep.set2 HST.out.alloc_l HB2.out (by decide) (by decide) (Nat.le_refl _) _ _
end
end Go.Proofs.Ytmjbfobjndiecaa
