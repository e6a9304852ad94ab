/-
  Whatever is asked, a Reader and the document's reader tell the same: each kind, each state.
-/
import Derived.Test.YtnhibnjgdkpomaaAskRw
import Derived.Test.YtnhibnjgdkpomaaRound
import Derived.Test.YtnhibnjgdkpomaaRsJ
namespace Go.Proofs.Ytnhibnjgdkpomaa
open Go.RowKit Plain
set_option linter.unusedVariables false
set_option linter.unusedSimpArgs false

theorem rs_cases (xs : List Nat) (hx : ∀ x ∈ xs, x < 256) : (∃ V K, rs xs = (V, K, 0) ∧ K ≤ xs.length ∧ V ≤ 9223372036854775807) ∨ ∃ E, E ≠ 0 ∧ rs xs = (0, 0, E) := by
  by_cases h : (rs xs).2.2 = 0
  · obtain ⟨h1, h2, h3, h4⟩ := rs_ok hx h
    exact .inl ⟨_, _, Prod.ext rfl (Prod.ext rfl h), h2, h4⟩
  · obtain ⟨h1, h2, h3⟩ := rs_err h
    exact .inr ⟨_, h, Prod.ext h1 (Prod.ext h2 rfl)⟩

theorem own_slice {w : World} {base n : Nat} {e : TypeId} {v : Value} {xs : List Value} (h : w.ownsRow base e 1 v n xs) : ∃ A c, v = .slice A n c := by
  rcases h.2 with ⟨rfl, h0⟩ | ⟨k, cap, _, rfl, _, _, hc, _⟩
  · exact ⟨none, 0, by rw [h0]⟩
  · exact ⟨_, cap, rfl⟩

section
variable (bs : List Nat) (c at_ : Nat) (A : Option Addr) (e : Int) (base g : Nat) (v : Value) (BB : Nat) (hx : ∀ x ∈ bs, x < 256) (hnc : bs.length ≤ c) (hn : bs.length ≤ 140737488355328) (hat : at_ ≤ bs.length)
include hx hnc hn hat

theorem tells_short : ∃ (at' : Nat) (e' : Int) (x : Int), RefTells 41 #[.agg #[.slice A bs.length c, .int .i64 (at_ : Int), .int .i64 e]] A bs.length c at' e' (.int .i64 x) BB bs ∧ RdTells 22 #[] base g v bs at_ e at' e' (.int .i64 x) := by
  have hdx : ∀ x ∈ bs.drop at_, x < 256 := fun x h => hx x (List.mem_of_mem_drop h)
  have hdl : (bs.drop at_).length = bs.length - at_ := List.length_drop
  by_cases he : e = 0
  · subst he
    rcases rs_cases (bs.drop at_) hdx with ⟨V, K, hrs, hK, hV⟩ | ⟨E, hE, hrs⟩
    · refine ⟨at_ + K, 0, (V : Int), fun W hr hB => (ref_rshort bs _ c at_ A W BB hr hx rfl hB hnc hn hat).mono ?_, fun W hR => (rd_short_yes base g v bs at_ V K W hR hx hn hrs (by omega)).mono ?_⟩
      · rintro en w' ⟨h1, h2⟩
        obtain ⟨V', K', E', h1, h1'⟩ := h1
        rw [hrs] at h1
        injection h1 with a1 a2
        injection a2 with a2 a3
        subst a1 a2 a3
        exact ⟨by rw [h1']; try simp, h2⟩
      · rintro en w' ⟨h1, h2⟩
        exact ⟨by rw [h1]; try simp, by simpa using h2⟩
    · refine ⟨at_, (E : Int), 0, fun W hr hB => (ref_rshort bs _ c at_ A W BB hr hx rfl hB hnc hn hat).mono ?_, fun W hR => (rd_short_no base g v bs at_ E W hR hx hn hrs hE).mono ?_⟩
      · rintro en w' ⟨h1, h2⟩
        obtain ⟨V', K', E', h1, h1'⟩ := h1
        rw [hrs] at h1
        injection h1 with a1 a2
        injection a2 with a2 a3
        subst a1 a2 a3
        exact ⟨by rw [h1']; try simp, h2⟩
      · rintro en w' ⟨h1, h2⟩
        exact ⟨by rw [h1]; try simp, by simpa using h2⟩
  · refine ⟨at_, e, 0, fun W hr hB => (ref_rshort_stop _ c at_ A e W he).mono ?_, fun W hR => (rd_short_stop base g v bs at_ e W hR he).mono ?_⟩
    · rintro en w' ⟨h1, h2⟩
      exact ⟨h1, h2⟩
    · rintro en w' ⟨h1, h2⟩
      exact ⟨by rw [h1]; try simp, by simpa using h2⟩

theorem tells_signed : ∃ (at' : Nat) (e' : Int) (x : Int), RefTells 42 #[.agg #[.slice A bs.length c, .int .i64 (at_ : Int), .int .i64 e]] A bs.length c at' e' (.int .i64 x) BB bs ∧ RdTells 23 #[] base g v bs at_ e at' e' (.int .i64 x) := by
  have hdx : ∀ x ∈ bs.drop at_, x < 256 := fun x h => hx x (List.mem_of_mem_drop h)
  have hdl : (bs.drop at_).length = bs.length - at_ := List.length_drop
  by_cases he : e = 0
  · subst he
    rcases rs_cases (bs.drop at_) hdx with ⟨V, K, hrs, hK, hV⟩ | ⟨E, hE, hrs⟩
    · by_cases hb : V ≤ 4611686018427387903
      · by_cases ho : V % 2 = 1
        · refine ⟨at_ + K, 0, unzig V, fun W hr hB => (ref_rsigned_odd bs _ c at_ A W BB hr hx rfl hB hnc hn hat V K hb (by omega) hrs).mono ?_, fun W hR => (rd_signed_yes base g v bs at_ V K W hR hx hn hrs (by omega) hb).mono ?_⟩
          · rintro en w' ⟨h1, h2⟩
            exact ⟨by rw [h1, show unzig V = -(((V : Int) / 2) + 1) by unfold unzig; rw [if_pos ho]; omega]; simp, h2⟩
          · rintro en w' ⟨h1, h2⟩
            exact ⟨by rw [h1]; try simp, by simpa using h2⟩
        · refine ⟨at_ + K, 0, unzig V, fun W hr hB => (ref_rsigned_even bs _ c at_ A W BB hr hx rfl hB hnc hn hat V K hb (by omega) hrs).mono ?_, fun W hR => (rd_signed_yes base g v bs at_ V K W hR hx hn hrs (by omega) hb).mono ?_⟩
          · rintro en w' ⟨h1, h2⟩
            exact ⟨by rw [h1, show unzig V = ((V : Int) / 2) by unfold unzig; rw [if_neg ho]; omega]; simp, h2⟩
          · rintro en w' ⟨h1, h2⟩
            exact ⟨by rw [h1]; try simp, by simpa using h2⟩
      · refine ⟨at_, 3, 0, fun W hr hB => (ref_rsigned_big bs _ c at_ A W BB hr hx rfl hB hnc hn hat V K (by omega) hV hrs).mono ?_, fun W hR => (rd_signed_big base g v bs at_ W hR hx hn V K (by omega) hV hrs).mono ?_⟩
        · rintro en w' ⟨h1, h2⟩
          exact ⟨by rw [h1], h2⟩
        · rintro en w' ⟨h1, h2⟩
          exact ⟨by rw [h1]; try simp, by simpa using h2⟩
    · refine ⟨at_, (E : Int), 0, fun W hr hB => (ref_rsigned_err bs _ c at_ A W BB hr hx rfl hB hnc hn hat E hE hrs).mono ?_, fun W hR => (rd_signed_err base g v bs at_ W hR hx hn E hE hrs).mono ?_⟩
      · rintro en w' ⟨h1, h2⟩
        exact ⟨by rw [h1], h2⟩
      · rintro en w' ⟨h1, h2⟩
        exact ⟨by rw [h1]; try simp, by simpa using h2⟩
  · refine ⟨at_, e, 0, fun W hr hB => (ref_rsigned_stop _ c at_ A e W he).mono ?_, fun W hR => (rd_signed_stop base g v bs at_ e W hR he).mono ?_⟩
    · rintro en w' ⟨h1, h2⟩
      exact ⟨h1, h2⟩
    · rintro en w' ⟨h1, h2⟩
      exact ⟨by rw [h1]; try simp, by simpa using h2⟩

theorem tells_text : ∃ (at' : Nat) (e' : Int) (x : ByteArray), RefTells 43 #[.agg #[.slice A bs.length c, .int .i64 (at_ : Int), .int .i64 e]] A bs.length c at' e' (.string x) BB bs ∧ RdTells 24 #[] base g v bs at_ e at' e' (.string x) := by
  have hdx : ∀ x ∈ bs.drop at_, x < 256 := fun x h => hx x (List.mem_of_mem_drop h)
  have hdl : (bs.drop at_).length = bs.length - at_ := List.length_drop
  by_cases he : e = 0
  · subst he
    rcases rs_cases (bs.drop at_) hdx with ⟨V, K, hrs, hK, hV⟩ | ⟨E, hE, hrs⟩
    · by_cases hb : at_ + (K + V) ≤ bs.length
      · refine ⟨at_ + (K + V), 0, TX (((bs.drop at_).drop K).take V), fun W hr hB => (ref_rtext_yes bs _ c at_ A W BB hr hx rfl hB hnc hn hat V K hb hrs).mono ?_, fun W hR => (rd_text_yes base g v bs at_ V K W hR hx hn hrs hb).mono ?_⟩
        · rintro en w' ⟨h1, h2⟩
          exact ⟨by rw [h1, show ((at_ : Int) + (K : Int) + (V : Int)) = ((at_ + (K + V) : Nat) : Int) by omega], h2⟩
        · rintro en w' ⟨h1, h2⟩
          exact ⟨by rw [h1]; try simp, by simpa using h2⟩
      · refine ⟨at_, 2, ⟨#[]⟩, fun W hr hB => (ref_rtext_big bs _ c at_ A W BB hr hx rfl hB hnc hn hat V K (by omega) (by omega) hV hrs).mono ?_, fun W hR => (rd_text_big base g v bs at_ W hR hx hn V K (by omega) (by omega) hV hrs).mono ?_⟩
        · rintro en w' ⟨h1, h2⟩
          exact ⟨by rw [h1], h2⟩
        · rintro en w' ⟨h1, h2⟩
          exact ⟨by rw [h1]; try simp, by simpa using h2⟩
    · refine ⟨at_, (E : Int), ⟨#[]⟩, fun W hr hB => (ref_rtext_err bs _ c at_ A W BB hr hx rfl hB hnc hn hat E hE hrs).mono ?_, fun W hR => (rd_text_err base g v bs at_ W hR hx hn E hE hrs).mono ?_⟩
      · rintro en w' ⟨h1, h2⟩
        exact ⟨by rw [h1], h2⟩
      · rintro en w' ⟨h1, h2⟩
        exact ⟨by rw [h1]; try simp, by simpa using h2⟩
  · refine ⟨at_, e, ⟨#[]⟩, fun W hr hB => (ref_rtext_stop _ c at_ A e W he).mono ?_, fun W hR => (rd_text_stop base g v bs at_ e W hR he).mono ?_⟩
    · rintro en w' ⟨h1, h2⟩
      exact ⟨h1, h2⟩
    · rintro en w' ⟨h1, h2⟩
      exact ⟨by rw [h1]; try simp, by simpa using h2⟩

theorem tells_list (most : Int) : ∃ (at' : Nat) (e' : Int) (x : Int), RefTells 44 #[.agg #[.slice A bs.length c, .int .i64 (at_ : Int), .int .i64 e], .int .i64 most] A bs.length c at' e' (.int .i64 x) BB bs ∧ RdTells 29 #[.int .i64 most] base g v bs at_ e at' e' (.int .i64 x) := by
  have hdx : ∀ x ∈ bs.drop at_, x < 256 := fun x h => hx x (List.mem_of_mem_drop h)
  have hdl : (bs.drop at_).length = bs.length - at_ := List.length_drop
  by_cases he : e = 0
  · subst he
    rcases rs_cases (bs.drop at_) hdx with ⟨V, K, hrs, hK, hV⟩ | ⟨E, hE, hrs⟩
    · by_cases hm : most < (V : Int)
      · refine ⟨at_, 3, 0, fun W hr hB => (ref_rlist_most bs _ c at_ A W BB hr hx rfl hB hnc hn hat most V K hm hV hrs).mono ?_, fun W hR => (rd_list_most base g v bs at_ most W hR hx hn V K hm hV hrs).mono ?_⟩
        · rintro en w' ⟨h1, h2⟩
          exact ⟨by rw [h1], h2⟩
        · rintro en w' ⟨h1, h2⟩
          exact ⟨by rw [h1]; try simp, by simpa using h2⟩
      · by_cases hb : at_ + (K + V) ≤ bs.length
        · refine ⟨at_ + K, 0, (V : Int), fun W hr hB => (ref_rlist_yes bs _ c at_ A W BB hr hx rfl hB hnc hn hat most V K hm hb hrs).mono ?_, fun W hR => (rd_list_yes base g v bs at_ most W hR hx hn V K hm hb hrs).mono ?_⟩
          · rintro en w' ⟨h1, h2⟩
            exact ⟨by rw [h1]; simp, h2⟩
          · rintro en w' ⟨h1, h2⟩
            exact ⟨by rw [h1]; try simp, by simpa using h2⟩
        · refine ⟨at_, 2, 0, fun W hr hB => (ref_rlist_big bs _ c at_ A W BB hr hx rfl hB hnc hn hat most V K hm (by omega) (by omega) hV hrs).mono ?_, fun W hR => (rd_list_big base g v bs at_ most W hR hx hn V K hm (by omega) (by omega) hV hrs).mono ?_⟩
          · rintro en w' ⟨h1, h2⟩
            exact ⟨by rw [h1], h2⟩
          · rintro en w' ⟨h1, h2⟩
            exact ⟨by rw [h1]; try simp, by simpa using h2⟩
    · refine ⟨at_, (E : Int), 0, fun W hr hB => (ref_rlist_err bs _ c at_ A W BB hr hx rfl hB hnc hn hat most E hE hrs).mono ?_, fun W hR => (rd_list_err base g v bs at_ most W hR hx hn E hE hrs).mono ?_⟩
      · rintro en w' ⟨h1, h2⟩
        exact ⟨by rw [h1], h2⟩
      · rintro en w' ⟨h1, h2⟩
        exact ⟨by rw [h1]; try simp, by simpa using h2⟩
  · refine ⟨at_, e, 0, fun W hr hB => (ref_rlist_stop _ c at_ A e W most he).mono ?_, fun W hR => (rd_list_stop base g v bs at_ e most W hR he).mono ?_⟩
    · rintro en w' ⟨h1, h2⟩
      exact ⟨h1, h2⟩
    · rintro en w' ⟨h1, h2⟩
      exact ⟨by rw [h1]; try simp, by simpa using h2⟩

theorem tells_fixed (m : Nat) (hm : Wide m) : ∃ (at' : Nat) (e' : Int) (x : Int), RefTells 40 #[.agg #[.slice A bs.length c, .int .i64 (at_ : Int), .int .i64 e], .int .i64 (m : Int)] A bs.length c at' e' (.int .u64 x) BB bs ∧ RdTells 21 #[.int .i64 (m : Int)] base g v bs at_ e at' e' (.int .u64 x) := by
  have hdx : ∀ x ∈ bs.drop at_, x < 256 := fun x h => hx x (List.mem_of_mem_drop h)
  have hdl : (bs.drop at_).length = bs.length - at_ := List.length_drop
  have hm8 : m ≤ 8 := by unfold Wide at hm; omega
  by_cases he : e = 0
  · subst he
    by_cases hb : at_ + m ≤ bs.length
    · refine ⟨at_ + m, 0, (leV ((bs.drop at_).take m) : Int), fun W hr hB => (ref_fixed_yes bs _ c at_ m A W BB hr hx rfl hB hnc hn hb hm8).mono ?_, fun W hR => (rd_fixed_yes base g v bs at_ m W hR hx hn hm hb).mono ?_⟩
      · rintro en w' ⟨h1, h2⟩
        exact ⟨by rw [h1]; simp, h2⟩
      · rintro en w' ⟨h1, h2⟩
        exact ⟨by rw [h1]; try simp, by simpa using h2⟩
    · refine ⟨at_, 2, 0, fun W hr hB => (ref_fixed_no bs _ c at_ m A W BB hr hB hnc hn hat (by omega)).mono ?_, fun W hR => (rd_fixed_no base g v bs at_ m W hR hn hm (by omega)).mono ?_⟩
      · rintro en w' ⟨h1, h2⟩
        exact ⟨by rw [h1], h2⟩
      · rintro en w' ⟨h1, h2⟩
        exact ⟨by rw [h1]; try simp, by simpa using h2⟩
  · refine ⟨at_, e, 0, fun W hr hB => (ref_fixed_stop _ c at_ m A e W he).mono ?_, fun W hR => (rd_fixed_stop base g v bs at_ m e W hR he hm).mono ?_⟩
    · rintro en w' ⟨h1, h2⟩
      exact ⟨h1, h2⟩
    · rintro en w' ⟨h1, h2⟩
      exact ⟨by rw [h1]; try simp, by simpa using h2⟩

omit hx in
theorem tells_raw (x : Int) : ∃ (at' : Nat) (e' : Int) (ys : List Nat), ys.length ≤ 140737488355328 ∧ RefTellsB A bs.length c at_ at' e e' x ys BB bs ∧ RdTellsB base g v bs at_ e at' e' x ys := by
  have hdl : (bs.drop at_).length = bs.length - at_ := List.length_drop
  by_cases he : e = 0
  · subst he
    by_cases hx0 : x < 0
    · refine ⟨at_, 0, [], by simp, fun W hr hB => (ref_raw_stop _ c at_ A 0 x W (.inr hx0)).mono ?_, fun W hR => (rd_raw_yes base g v bs at_ 0 x W hR hn (by omega) (by omega)).mono ?_⟩
      · rintro en w' ⟨h1, h2⟩
        exact ⟨none, 0, h1, Reads.none_, h2⟩
      · rintro en w' ⟨val, h1, h2, h3⟩
        obtain ⟨A', c', rfl⟩ : ∃ A' c', val = .slice A' 0 c' := own_slice h2
        exact ⟨A', c', h1, Reads.of_own (by simpa using h2), h3⟩
    · by_cases hb : (at_ : Int) + x ≤ bs.length
      · obtain ⟨m, rfl⟩ : ∃ m : Nat, x = (m : Int) := ⟨x.toNat, by omega⟩
        have hl : ((bs.drop at_).take m).length = m := by rw [List.length_take, hdl]; omega
        refine ⟨at_ + m, 0, (bs.drop at_).take m, by omega, fun W hr hB => (ref_raw_yes bs _ c at_ m A W BB hr hB hnc hn (by omega)).mono ?_, fun W hR => (rd_raw_yes base g v bs at_ m m W hR hn (by omega) (by omega)).mono ?_⟩
        · rintro en w' ⟨A', c', h1, h2, h3, h4⟩
          rw [hl]
          exact ⟨A', c', by rw [h1]; simp, h2, h4⟩
        · rintro en w' ⟨val, h1, h2, h3⟩
          obtain ⟨A', c', rfl⟩ := own_slice h2
          rw [hl]
          exact ⟨A', c', h1, Reads.of_own h2, h3⟩
      · refine ⟨at_, 2, [], by simp, fun W hr hB => (ref_raw_no bs _ c at_ x A W BB hr hB hnc hn hat (by omega)).mono ?_, fun W hR => (rd_raw_no base g v bs at_ x W hR hn (by omega)).mono ?_⟩
        · rintro en w' ⟨h1, h2⟩
          exact ⟨none, 0, h1, Reads.none_, h2⟩
        · rintro en w' ⟨h1, h2⟩
          exact ⟨none, 0, h1, Reads.none_, h2⟩
  · refine ⟨at_, e, [], by simp, fun W hr hB => (ref_raw_stop _ c at_ A e x W (.inl he)).mono ?_, fun W hR => (rd_raw_err base g v bs at_ x e W hR he).mono ?_⟩
    · rintro en w' ⟨h1, h2⟩
      exact ⟨none, 0, h1, Reads.none_, h2⟩
    · rintro en w' ⟨h1, h2⟩
      exact ⟨none, 0, h1, Reads.none_, h2⟩
end
end Go.Proofs.Ytnhibnjgdkpomaa
