
/-
  What the program's reader, and the document's, tell, and where they stand behind it, by the plain readings.
-/
import Derived.Test.YtmjbfobjndiecaaRfR
import Derived.Test.YtmjbfobjndiecaaRdB
import Derived.Test.YtmjbfobjndiecaaCrP
import Derived.Deep.RegionHeld3
set_option linter.unusedVariables false
set_option linter.unusedSimpArgs false
namespace Go.Proofs.Ytmjbfobjndiecaa
open Go.RowKit Plain

theorem rs_cases2 (xs : List Nat) (hx : ∀ x ∈ xs, x < 256) : (∃ V K, rs xs = (V, K, 0) ∧ K ≤ xs.length ∧ V ≤ 9223372036854775807) ∨ ∃ E, E ≠ 0 ∧ rs xs = (0, 0, E) := by
  by_cases h : (rs xs).2.2 = 0
  · obtain ⟨h1, h2, h3, h4⟩ := rs_ok hx h
    exact .inl ⟨_, _, Prod.ext rfl (Prod.ext rfl h), h2, h4⟩
  · obtain ⟨h1, h2, h3⟩ := rs_err h
    exact .inr ⟨_, h, Prod.ext h1 (Prod.ext h2 rfl)⟩
/-- What the document's call tells. -/
def RefT (f : FuncId) (args : Array Value) (A : Option Addr) (n c at' : Nat) (e' : Int) (val : Value) (BB : Nat) (bs : List Nat) : Prop :=
  ∀ W : World, Reads W BB 1 A n (BS bs) → BB ≤ W.heap.size → Calls Try.prog f args W fun en w' => en = .returned (.tuple #[.agg #[.slice A n c, .int .i64 (at' : Int), .int .i64 e'], val]) ∧ Below W.heap.size W w'
/-- What the program's call leaves. -/
def RdT (f : FuncId) (args : Array Value) (base g : Nat) (v : Value) (bs : List Nat) (at_ : Nat) (e : Int) (at' : Nat) (e' : Int) (val : Value) : Prop :=
  ∀ W : World, Rd W base g v bs at_ e → Calls Try.prog f (#[.pointer (some ⟨g, 0, none⟩)] ++ args) W fun en w' => en = .returned val ∧ RdStep base g v bs (at', e') W w'

theorem stP_ok {f : List Nat → Int × Nat × Nat} {bs : List Nat} {at_ K : Nat} {x : Int} (h : f (bs.drop at_) = (x, K, 0)) : stP f bs (at_, 0) = (x, (at_ + K, 0)) := by
  unfold stP; simp only; rw [h]; simp [orZ, stepR]
theorem stP_no {f : List Nat → Int × Nat × Nat} {bs : List Nat} {at_ E : Nat} (h : f (bs.drop at_) = (0, 0, E)) (hE : E ≠ 0) : stP f bs (at_, 0) = (0, (at_, (E : Int))) := by
  unfold stP; simp only; rw [h]; simp [orZ, stepR, hE]
theorem stP_stop {f : List Nat → Int × Nat × Nat} {bs : List Nat} {at_ : Nat} {e : Int} (h : e ≠ 0) : stP f bs (at_, e) = (0, (at_, e)) := by
  unfold stP; simp [orZ, stepR, h]

section
variable (bs : List Nat) (c at_ : Nat) (A : Option Addr) (e : Int) (base g : Nat) (v : Value) (BB : Nat) (hx : ∀ x ∈ bs, x < 256) (hnc : bs.length ≤ c) (hn : bs.length ≤ 140737488355328) (hat : at_ ≤ bs.length)
include hx hnc hn hat
theorem told_short : RefT 61 #[.agg #[.slice A bs.length c, .int .i64 (at_ : Int), .int .i64 e]] A bs.length c (stP sh bs (at_, e)).2.1 (stP sh bs (at_, e)).2.2 (.int .i64 (stP sh bs (at_, e)).1) BB bs ∧ RdT 46 #[] base g v bs at_ e (stP sh bs (at_, e)).2.1 (stP sh bs (at_, e)).2.2 (.int .i64 (stP sh bs (at_, e)).1) := by
  have hdx : ∀ x ∈ bs.drop at_, x < 256 := fun x h => hx x (List.mem_of_mem_drop h)
  have hdl : (bs.drop at_).length = bs.length - at_ := List.length_drop
  by_cases he : e = 0
  · subst he
    rcases rs_cases2 (bs.drop at_) hdx with ⟨V, K, hrs, hK, hV⟩ | ⟨E, hE, hrs⟩
    · rw [show stP sh bs (at_, 0) = ((V : Int), (at_ + K, 0)) from stP_ok (by unfold sh; rw [hrs])]
      refine ⟨fun W hr hB => (ref_rshort bs _ c at_ A W BB hr hx rfl hB hnc hn hat).mono ?_, fun W hR => (rd_short_yes base g v bs at_ V K W hR hx hn hrs (by omega)).mono ?_⟩
      · rintro en w' ⟨h1, h2⟩
        obtain ⟨V', K', E', h1, h1'⟩ := h1
        rw [hrs] at h1
        injection h1 with a1 a2
        injection a2 with a2 a3
        subst a1 a2 a3
        exact ⟨by rw [h1']; try simp, h2⟩
      · rintro en w' ⟨h1, h2⟩
        exact ⟨by rw [h1]; try simp, by simpa using h2⟩
    · rw [show stP sh bs (at_, 0) = (0, (at_, (E : Int))) from stP_no (by unfold sh; rw [hrs]; rfl) hE]
      refine ⟨fun W hr hB => (ref_rshort bs _ c at_ A W BB hr hx rfl hB hnc hn hat).mono ?_, fun W hR => (rd_short_no base g v bs at_ E W hR hx hn hrs hE).mono ?_⟩
      · rintro en w' ⟨h1, h2⟩
        obtain ⟨V', K', E', h1, h1'⟩ := h1
        rw [hrs] at h1
        injection h1 with a1 a2
        injection a2 with a2 a3
        subst a1 a2 a3
        exact ⟨by rw [h1']; try simp, h2⟩
      · rintro en w' ⟨h1, h2⟩
        exact ⟨by rw [h1]; try simp, by simpa using h2⟩
  · rw [show stP sh bs (at_, e) = (0, (at_, e)) from stP_stop he]
    refine ⟨fun W hr hB => (ref_rshort_stop _ c at_ A e W he).mono ?_, fun W hR => (rd_short_stop base g v bs at_ e W hR he).mono ?_⟩
    · rintro en w' ⟨h1, h2⟩
      exact ⟨h1, h2⟩
    · rintro en w' ⟨h1, h2⟩
      exact ⟨by rw [h1]; try simp, by simpa using h2⟩

theorem told_signed : RefT 89 #[.agg #[.slice A bs.length c, .int .i64 (at_ : Int), .int .i64 e]] A bs.length c (stP sg bs (at_, e)).2.1 (stP sg bs (at_, e)).2.2 (.int .i64 (stP sg bs (at_, e)).1) BB bs ∧ RdT 79 #[] base g v bs at_ e (stP sg bs (at_, e)).2.1 (stP sg bs (at_, e)).2.2 (.int .i64 (stP sg bs (at_, e)).1) := by
  have hdx : ∀ x ∈ bs.drop at_, x < 256 := fun x h => hx x (List.mem_of_mem_drop h)
  have hdl : (bs.drop at_).length = bs.length - at_ := List.length_drop
  by_cases he : e = 0
  · subst he
    rcases rs_cases2 (bs.drop at_) hdx with ⟨V, K, hrs, hK, hV⟩ | ⟨E, hE, hrs⟩
    · by_cases hb : V ≤ 4611686018427387903
      · by_cases ho : V % 2 = 1
        · rw [show stP sg bs (at_, 0) = (unzig V, (at_ + K, 0)) from stP_ok (by unfold sg; rw [hrs]; simp [hb])]
          refine ⟨fun W hr hB => (ref_rsigned_odd bs _ c at_ A W BB hr hx rfl hB hnc hn hat V K hb (by omega) hrs).mono ?_, fun W hR => (rd_signed_yes base g v bs at_ V K W hR hx hn hrs (by omega) hb).mono ?_⟩
          · rintro en w' ⟨h1, h2⟩
            exact ⟨by rw [h1, show unzig V = -(((V : Int) / 2) + 1) by unfold unzig; rw [if_pos ho]; omega]; simp, h2⟩
          · rintro en w' ⟨h1, h2⟩
            exact ⟨by rw [h1]; try simp, by simpa using h2⟩
        · rw [show stP sg bs (at_, 0) = (unzig V, (at_ + K, 0)) from stP_ok (by unfold sg; rw [hrs]; simp [hb])]
          refine ⟨fun W hr hB => (ref_rsigned_even bs _ c at_ A W BB hr hx rfl hB hnc hn hat V K hb (by omega) hrs).mono ?_, fun W hR => (rd_signed_yes base g v bs at_ V K W hR hx hn hrs (by omega) hb).mono ?_⟩
          · rintro en w' ⟨h1, h2⟩
            exact ⟨by rw [h1, show unzig V = ((V : Int) / 2) by unfold unzig; rw [if_neg ho]; omega]; simp, h2⟩
          · rintro en w' ⟨h1, h2⟩
            exact ⟨by rw [h1]; try simp, by simpa using h2⟩
      · rw [show stP sg bs (at_, 0) = (0, (at_, ((3 : Nat) : Int))) from stP_no (E := 3) (by unfold sg; rw [hrs]; simp [hb]) (by omega)]
        refine ⟨fun W hr hB => (ref_rsigned_big bs _ c at_ A W BB hr hx rfl hB hnc hn hat V K (by omega) hV hrs).mono ?_, fun W hR => (rd_signed_big base g v bs at_ W hR hx hn V K (by omega) hV hrs).mono ?_⟩
        · rintro en w' ⟨h1, h2⟩
          exact ⟨by rw [h1]; try rfl, h2⟩
        · rintro en w' ⟨h1, h2⟩
          exact ⟨by rw [h1]; try simp, by simpa using h2⟩
    · rw [show stP sg bs (at_, 0) = (0, (at_, (E : Int))) from stP_no (by unfold sg; rw [hrs]; simp [hE]) hE]
      refine ⟨fun W hr hB => (ref_rsigned_err bs _ c at_ A W BB hr hx rfl hB hnc hn hat E hE hrs).mono ?_, fun W hR => (rd_signed_err base g v bs at_ W hR hx hn E hE hrs).mono ?_⟩
      · rintro en w' ⟨h1, h2⟩
        exact ⟨by rw [h1]; try rfl, h2⟩
      · rintro en w' ⟨h1, h2⟩
        exact ⟨by rw [h1]; try simp, by simpa using h2⟩
  · rw [show stP sg bs (at_, e) = (0, (at_, e)) from stP_stop he]
    refine ⟨fun W hr hB => (ref_rsigned_stop _ c at_ A e W he).mono ?_, fun W hR => (rd_signed_stop base g v bs at_ e W hR he).mono ?_⟩
    · rintro en w' ⟨h1, h2⟩
      exact ⟨h1, h2⟩
    · rintro en w' ⟨h1, h2⟩
      exact ⟨by rw [h1]; try simp, by simpa using h2⟩

theorem told_list (most : Nat) : RefT 59 #[.agg #[.slice A bs.length c, .int .i64 (at_ : Int), .int .i64 e], .int .i64 (most : Int)] A bs.length c (stP (ls most) bs (at_, e)).2.1 (stP (ls most) bs (at_, e)).2.2 (.int .i64 (stP (ls most) bs (at_, e)).1) BB bs ∧ RdT 75 #[.int .i64 (most : Int)] base g v bs at_ e (stP (ls most) bs (at_, e)).2.1 (stP (ls most) bs (at_, e)).2.2 (.int .i64 (stP (ls most) bs (at_, e)).1) := by
  have hdx : ∀ x ∈ bs.drop at_, x < 256 := fun x h => hx x (List.mem_of_mem_drop h)
  have hdl : (bs.drop at_).length = bs.length - at_ := List.length_drop
  by_cases he : e = 0
  · subst he
    rcases rs_cases2 (bs.drop at_) hdx with ⟨V, K, hrs, hK, hV⟩ | ⟨E, hE, hrs⟩
    · by_cases hm : (most : Int) < (V : Int)
      · rw [show stP (ls most) bs (at_, 0) = (0, (at_, ((3 : Nat) : Int))) from stP_no (E := 3) (by unfold ls; rw [hrs]; rw [if_neg (by simp), if_pos (by omega)]) (by omega)]
        refine ⟨fun W hr hB => (ref_rlist_most bs _ c at_ A W BB hr hx rfl hB hnc hn hat (most : Int) V K hm hV hrs).mono ?_, fun W hR => (rd_list_most base g v bs at_ (most : Int) W hR hx hn V K hm hV hrs).mono ?_⟩
        · rintro en w' ⟨h1, h2⟩
          exact ⟨by rw [h1]; try rfl, h2⟩
        · rintro en w' ⟨h1, h2⟩
          exact ⟨by rw [h1]; try simp, by simpa using h2⟩
      · by_cases hb : at_ + (K + V) ≤ bs.length
        · rw [show stP (ls most) bs (at_, 0) = ((V : Int), (at_ + K, 0)) from stP_ok (by unfold ls; rw [hrs]; simp only [hdl]; rw [if_neg (by simp), if_neg (by omega), if_neg (by omega)])]
          refine ⟨fun W hr hB => (ref_rlist_yes bs _ c at_ A W BB hr hx rfl hB hnc hn hat (most : Int) V K hm hb hrs).mono ?_, fun W hR => (rd_list_yes base g v bs at_ (most : Int) W hR hx hn V K hm hb hrs).mono ?_⟩
          · rintro en w' ⟨h1, h2⟩
            exact ⟨by rw [h1]; simp, h2⟩
          · rintro en w' ⟨h1, h2⟩
            exact ⟨by rw [h1]; try simp, by simpa using h2⟩
        · rw [show stP (ls most) bs (at_, 0) = (0, (at_, ((2 : Nat) : Int))) from stP_no (E := 2) (by unfold ls; rw [hrs]; simp only [hdl]; rw [if_neg (by simp), if_neg (by omega), if_pos (by omega)]) (by omega)]
          refine ⟨fun W hr hB => (ref_rlist_big bs _ c at_ A W BB hr hx rfl hB hnc hn hat (most : Int) V K hm (by omega) (by omega) hV hrs).mono ?_, fun W hR => (rd_list_big base g v bs at_ (most : Int) W hR hx hn V K hm (by omega) (by omega) hV hrs).mono ?_⟩
          · rintro en w' ⟨h1, h2⟩
            exact ⟨by rw [h1]; try rfl, h2⟩
          · rintro en w' ⟨h1, h2⟩
            exact ⟨by rw [h1]; try simp, by simpa using h2⟩
    · rw [show stP (ls most) bs (at_, 0) = (0, (at_, (E : Int))) from stP_no (by unfold ls; rw [hrs]; simp [hE]) hE]
      refine ⟨fun W hr hB => (ref_rlist_err bs _ c at_ A W BB hr hx rfl hB hnc hn hat (most : Int) E hE hrs).mono ?_, fun W hR => (rd_list_err base g v bs at_ (most : Int) W hR hx hn E hE hrs).mono ?_⟩
      · rintro en w' ⟨h1, h2⟩
        exact ⟨by rw [h1]; try rfl, h2⟩
      · rintro en w' ⟨h1, h2⟩
        exact ⟨by rw [h1]; try simp, by simpa using h2⟩
  · rw [show stP (ls most) bs (at_, e) = (0, (at_, e)) from stP_stop he]
    refine ⟨fun W hr hB => (ref_rlist_stop _ c at_ A e W (most : Int) he).mono ?_, fun W hR => (rd_list_stop base g v bs at_ e (most : Int) W hR he).mono ?_⟩
    · rintro en w' ⟨h1, h2⟩
      exact ⟨h1, h2⟩
    · rintro en w' ⟨h1, h2⟩
      exact ⟨by rw [h1]; try simp, by simpa using h2⟩

theorem told_fixed : RefT 88 #[.agg #[.slice A bs.length c, .int .i64 (at_ : Int), .int .i64 e], .int .i64 ((1 : Nat) : Int)] A bs.length c (stP fx bs (at_, e)).2.1 (stP fx bs (at_, e)).2.2 (.int .u64 (stP fx bs (at_, e)).1) BB bs ∧ RdT 78 #[.int .i64 ((1 : Nat) : Int)] base g v bs at_ e (stP fx bs (at_, e)).2.1 (stP fx bs (at_, e)).2.2 (.int .u64 (stP fx bs (at_, e)).1) := by
  have hdx : ∀ x ∈ bs.drop at_, x < 256 := fun x h => hx x (List.mem_of_mem_drop h)
  have hdl : (bs.drop at_).length = bs.length - at_ := List.length_drop
  have hm : Wide 1 := by unfold Wide; omega
  by_cases he : e = 0
  · subst he
    by_cases hb : at_ + 1 ≤ bs.length
    · rw [show stP fx bs (at_, 0) = ((leV ((bs.drop at_).take 1) : Int), (at_ + 1, 0)) from stP_ok (K := 1) (by unfold fx; rw [if_neg (by rw [hdl]; omega)])]
      refine ⟨fun W hr hB => (ref_fixed_yes bs _ c at_ 1 A W BB hr hx rfl hB hnc hn hb (by omega)).mono ?_, fun W hR => (rd_fixed_yes base g v bs at_ 1 W hR hx hn hm hb).mono ?_⟩
      · rintro en w' ⟨h1, h2⟩
        exact ⟨by rw [h1]; simp, h2⟩
      · rintro en w' ⟨h1, h2⟩
        exact ⟨by rw [h1]; try simp, by simpa using h2⟩
    · rw [show stP fx bs (at_, 0) = (0, (at_, ((2 : Nat) : Int))) from stP_no (E := 2) (by unfold fx; rw [if_pos (by rw [hdl]; omega)]) (by omega)]
      refine ⟨fun W hr hB => (ref_fixed_no bs _ c at_ 1 A W BB hr hB hnc hn hat (by omega)).mono ?_, fun W hR => (rd_fixed_no base g v bs at_ 1 W hR hn hm (by omega)).mono ?_⟩
      · rintro en w' ⟨h1, h2⟩
        exact ⟨by rw [h1]; try rfl, h2⟩
      · rintro en w' ⟨h1, h2⟩
        exact ⟨by rw [h1]; try simp, by simpa using h2⟩
  · rw [show stP fx bs (at_, e) = (0, (at_, e)) from stP_stop he]
    refine ⟨fun W hr hB => (ref_fixed_stop _ c at_ 1 A e W he).mono ?_, fun W hR => (rd_fixed_stop base g v bs at_ 1 e W hR he hm).mono ?_⟩
    · rintro en w' ⟨h1, h2⟩
      exact ⟨h1, h2⟩
    · rintro en w' ⟨h1, h2⟩
      exact ⟨by rw [h1]; try simp, by simpa using h2⟩

end

theorem rd_end_ok2 (base g : Nat) (v : Value) (bs : List Nat) (at_ : Nat) (w : World) (hR : Rd w base g v bs at_ 0) (hlen : bs.length ≤ 140737488355328) (h : at_ = bs.length) :
    Calls Try.prog 50 #[.pointer (some ⟨g, 0, none⟩)] w fun en w' => en = .returned (.int .i64 0) ∧ ∃ k, w' = w.drewN k := by
  have HR := Lib.hid hR
  have H := Lib.hid h
  clear hR h
  go_enter Try.func50, Try.ntmps50
  go_wp2_with fail
  refine (rd_left base g v bs at_ 0 w HR.out hlen).mono ?_
  rintro en w1 ⟨rfl, k, rfl⟩
  have hc := (cell_at (HR.out.drewN k)).2.2.1
  have hle : ¬ 0 < (bs.length : Int) - (at_ : Int) := by have := H.out; omega
  go_wp2_with fail
  go_ret
  exact ⟨rfl, k, rfl⟩

def endE (bs : List Nat) (s : Sx) : Int := if s.2 ≠ 0 then s.2 else if s.1 < bs.length then 3 else 0
theorem rd_end_any (base g : Nat) (v : Value) (bs : List Nat) (s : Sx) (w : World) (hR : Rd w base g v bs s.1 s.2) (hlen : bs.length ≤ 140737488355328) :
    Calls Try.prog 50 #[.pointer (some ⟨g, 0, none⟩)] w fun en w' => en = .returned (.int .i64 (endE bs s)) ∧ Fr (fun i => i = g) w w' := by
  obtain ⟨a, e⟩ := s
  simp only at hR
  unfold endE
  simp only
  by_cases he : e = 0
  · subst he
    rw [if_neg (by simp)]
    by_cases h : a < bs.length
    · rw [if_pos h]
      exact (rd_end_form base g v bs a w hR hlen h).mono fun en w' ⟨h1, k, h2⟩ => ⟨h1, ((Fr.refl _ w).drewN k).trans h2.2 (fun _ _ h => h)⟩
    · rw [if_neg h]
      exact (rd_end_ok2 base g v bs a w hR hlen (by have := hR.2.2; omega)).mono fun en w' h => by obtain ⟨h1, k, rfl⟩ := h; exact ⟨h1, (Fr.refl _ w).drewN k⟩
  · rw [if_pos he]
    exact (rd_end_stop base g v bs a e w hR he hlen).mono fun en w' ⟨h1, h2⟩ => ⟨h1, h2.2⟩
end Go.Proofs.Ytmjbfobjndiecaa
