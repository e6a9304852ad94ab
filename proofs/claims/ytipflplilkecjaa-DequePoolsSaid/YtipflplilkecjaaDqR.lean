
/-
  A queue's calls: count, next, Put.
-/
import Derived.Test.YtipflplilkecjaaDqQ
set_option linter.unusedVariables false
set_option linter.unusedSimpArgs false
namespace Go.Proofs.Ytipflplilkecjaa
open Go.RowKit Plain

theorem contQ_succ {rs : List QRec} {k : Nat} {r : QRec} (h : rs[k]? = some r) : contQ (rs.take (k + 1)) = contQ (rs.take k) ++ r.l := by
  rw [List.take_add_one, h]
  simp [contQ]
theorem contQ_le (rs : List QRec) (k : Nat) : (contQ (rs.take k)).length ≤ (contQ rs).length := by
  have : contQ rs = contQ (rs.take k) ++ contQ (rs.drop k) := by simp only [contQ]; rw [← List.flatMap_append, List.take_append_drop]
  rw [this]
  simp
theorem contQ_many : ∀ {rs : List QRec}, (∀ r ∈ rs, r.l ≠ []) → rs.length ≤ (contQ rs).length
  | [], _ => Nat.le_refl _
  | r :: rs, h => by
    have h1 := contQ_many (rs := rs) (fun r' hr' => h r' (List.mem_cons_of_mem _ hr'))
    have h2 : r.l.length ≠ 0 := fun e => h r (by simp) (List.eq_nil_of_length_eq_zero e)
    have h3 : contQ (r :: rs) = r.l ++ contQ rs := by simp [contQ]
    rw [h3, List.length_append, List.length_cons]
    omega
theorem Qu.cnt {w : World} {g : Nat} {dv : Value} {D : Nat → Prop} {rs : List QRec} (h : Qu w g dv D rs) (hN : (contQ rs).length ≤ 1000000) : rs.length ≤ 1000000 := by
  rcases h.ne with h1 | h1
  · omega
  · have := contQ_many h1; omega
section
variable (g : Nat) (dv : Value) (D : Nat → Prop) (rs : List QRec) (w : World)
set_option maxHeartbeats 1000000 in
theorem count_q (h : Qu w g dv D rs) (hN : (contQ rs).length ≤ 1000000) :
    Calls Try.prog 44 #[.pointer (some ⟨g, 0, none⟩)] w fun e w' => e = .returned (.int .i64 ((contQ rs).length : Int)) ∧ w = w' := by
  obtain ⟨A, c, hb, hrow⟩ := h.box
  have c0 : w.cell? ⟨g, 0, none⟩ = some (.slice A rs.length c) := (hb.cell 0).trans rfl
  have hcnt := h.cnt hN
  obtain ⟨n, hn⟩ : ∃ n, n = rs.length := ⟨_, rfl⟩
  rw [← hn] at c0 hcnt
  have H := Lib.hid h; have HR := Lib.hid hrow; have HN := Lib.hid hn; have HC := Lib.hid hN
  clear h hb hrow hn hN
  go_enter Try.func44, Try.ntmps44
  go_wp2_with fail
  go_loopw [3, 11] (fun s3 s11 wr => ∃ k m : Nat, k ≤ n ∧ s3 = .int .i64 (m : Int) ∧ s11 = .int .i64 (k : Int) ∧ Hid (m = (contQ (rs.take k)).length) ∧ w = wr) (fun _ s11 _ => n - (intOf s11).toNat)
  case atStart => exact ⟨0, 0, by omega, rfl, rfl, Lib.hid (by simp [contQ]), rfl⟩
  case round =>
    obtain ⟨k, m, hk, rfl, rfl, HM, rfl⟩ := hrel
    by_cases hlt : k < n
    · have hkl : k < rs.length := by have := HN.out; omega
      have hx : rs[k]? = some rs[k] := List.getElem?_eq_getElem hkl
      generalize rs[k] = r at *
      obtain ⟨ad, rfl, hcx, _⟩ := HR.out.cell hx
      have hrr := H.out.rings r (List.mem_of_getElem? hx)
      have hm1 := contQ_le rs (k + 1)
      rw [contQ_succ hx, List.length_append, ← HM.out] at hm1
      have hwr : IntKind.i64.wrap ((m : Int) + (r.l.length : Int)) = ((m + r.l.length : Nat) : Int) := by have := HC.out; rw [IntWalk.i64_in _ (by omega)]; omega
      have HX := Lib.hid hx; have HRR := Lib.hid hrr
      clear hx hrr hkl hm1
      go_wp2_with fail
      refine (len_anyI r.g r.s 32 r.f r.l w HRR.out.1).mono ?_
      rintro e w' ⟨rfl, rfl⟩
      go_wp2_with fail
      exact ⟨⟨k + 1, m + r.l.length, by omega, rfl, by go_num, Lib.hid (by rw [contQ_succ HX.out, List.length_append, ← HM.out]), trivial⟩, by simp [intOf]; omega⟩
    · have hkn : k = n := by omega
      have hm : m = (contQ rs).length := by rw [HM.out, hkn, HN.out, List.take_length]
      have HMM := Lib.hid hm
      clear hkn hm
      go_wp2_with fail
      go_ret
      exact ⟨by rw [HMM.out]; rfl, rfl⟩

set_option maxHeartbeats 1000000 in
theorem next_q_no (h : Qu w g dv D rs) (hc : contQ rs = []) :
    Calls Try.prog 43 #[.pointer (some ⟨g, 0, none⟩)] w fun e w' => e = .returned (.tuple #[.int .i64 0, .int .i64 7]) ∧ ∃ n, w' = w.drewN n := by
  obtain ⟨A, c, hb, hrow⟩ := h.box
  have c0 : w.cell? ⟨g, 0, none⟩ = some (.slice A rs.length c) := (hb.cell 0).trans rfl
  rcases rs with _ | ⟨r, rest⟩
  · rw [List.length_nil] at c0
    clear h hb hrow hc
    go_enter Try.func43, Try.ntmps43
    go_wp2_with fail
    go_ret2
    exact ⟨rfl, 0, rfl⟩
  · have hr0 : r.l = [] := by simp [contQ] at hc; exact hc.1
    have hrest : rest = [] := by
      rcases h.ne with h1 | h1
      · simp at h1; exact h1
      · exact absurd hr0 (h1 r (by simp))
    subst hrest
    obtain ⟨ad, rfl, hcx, _⟩ := hrow.cell (i := 0) (r := r) rfl
    rw [show ad.add 0 = ad by simp [Addr.add]] at hcx
    have hrr := (h.rings r (by simp)).1
    rw [hr0] at hrr
    have hq := pop_noI r.g r.s 32 r.f w hrr
    have HQ := Lib.hid hq
    simp only [List.length_singleton] at c0
    clear h hb hrow hc hr0 hrr hq
    go_enter Try.func43, Try.ntmps43
    go_wp2_with fail
    refine HQ.out.mono ?_
    rintro e w' ⟨rfl, n, rfl⟩
    go_wp2_with fail
    go_ret2
    exact ⟨rfl, n, rfl⟩

set_option maxHeartbeats 2000000 in
theorem next_q_yes (x : Int) (l : List Int) (h : Qu w g dv D rs) (hc : contQ rs = x :: l) (hN : (contQ rs).length ≤ 1000000) :
    Calls Try.prog 43 #[.pointer (some ⟨g, 0, none⟩)] w fun e w' => e = .returned (.tuple #[.int .i64 x, .int .i64 0]) ∧ ∃ rs', Qu w' g dv D rs' ∧ contQ rs' = l ∧ Fr D w w' := by
  have hcnt := h.cnt hN
  obtain ⟨A, c, hb, hrow⟩ := h.box
  have c0 : w.cell? ⟨g, 0, none⟩ = some (.slice A rs.length c) := (hb.cell 0).trans rfl
  have z0 : w.frozen? ⟨g, 0, none⟩ = false := hb.frozen 0
  obtain ⟨t1, t2, t3, t4, t5, t6⟩ := ringT_ne
  rcases rs with _ | ⟨r, rest⟩
  · simp [contQ] at hc
  obtain ⟨l0, hl0⟩ : ∃ l0, r.l = x :: l0 := by
    have h1 : contQ (r :: rest) = r.l ++ contQ rest := by simp [contQ]
    rcases hrl : r.l with _ | ⟨y, l0⟩
    · rcases h.ne with h2 | h2
      · simp at h2
        subst h2
        simp [contQ, hrl] at hc
      · exact absurd hrl (h2 r (by simp))
    · rw [h1, hrl] at hc
      simp at hc
      exact ⟨l0, by rw [hc.1]⟩
  have hl : l = l0 ++ contQ rest := by
    have h1 : contQ (r :: rest) = r.l ++ contQ rest := by simp [contQ]
    rw [h1, hl0] at hc
    simp at hc
    exact hc.symm
  rcases hrow with ⟨h1, _⟩ | ⟨b, o, cs, rfl, h2, h3, h30, h4, h5, h6, h7⟩
  · cases h1
  have hcx : w.cell? ⟨b, o, none⟩ = some (.pointer (some ⟨r.g, 0, none⟩)) := by
    rw [h4.cell]
    simpa using h7 0 r rfl
  have hzx : w.frozen? ⟨b, o, none⟩ = false := h4.frozen o
  have hrr := h.rings r (by simp)
  have hri := hrr.1
  rw [hl0] at hri
  obtain ⟨zz, -, e1, -⟩ := hri.row
  have ng : g ≠ r.g ∧ g ≠ r.s := ⟨Blk.ne_ hb hri.box (Ne.symm t1), Blk.ne_ hb e1 (Ne.symm t2)⟩
  have nb : b ≠ r.g ∧ b ≠ r.s := ⟨Blk.ne_ h4 hri.box (Ne.symm t4), Blk.ne_ h4 e1 (Ne.symm t5)⟩
  have hgb : ¬ g = b := Blk.ne_ hb h4 (Ne.symm t3)
  have hbg : ¬ b = g := fun e => hgb e.symm
  have hq := pop_yesI r.g r.s 32 r.f l0 w x hri
  obtain ⟨n, hn⟩ : ∃ n, n = rest.length := ⟨_, rfl⟩
  have hlt := hb.lt; have hlt4 := h4.lt
  rw [List.length_cons, ← hn] at c0 h2 hcnt
  have C0 := Lib.hid c0; have Z0 := Lib.hid z0; have CX := Lib.hid hcx; have ZX := Lib.hid hzx
  have hbB : Blk w b _ _ := h4
  have H := Lib.hid h; have HQ := Lib.hid hq; have HRR := Lib.hid hrr.2; have HL := Lib.hid hl; have HNN := Lib.hid hn; have HB := Lib.hid hb; have HB4 := Lib.hid hbB
  have hcp : contQ rest = contQ rest := rfl
  have HT := Lib.hid h6
  clear h hb hc hl hrr hri hq hl0 h7 h6 e1 hN h4 hbB hn z0 hzx
  go_enter Try.func43, Try.ntmps43
  go_wp2_with fail
  refine HQ.out.mono ?_
  rintro e w1 ⟨rfl, hri, hf⟩
  have c1 := (hf.cell (p := ⟨g, 0, none⟩) hlt (by intro e; rcases e with e | e; exact ng.1 e; exact ng.2 e)).trans C0.out
  have cx1 := (hf.cell (p := ⟨b, o, none⟩) hlt4 (by intro e; rcases e with e | e; exact nb.1 e; exact nb.2 e)).trans CX.out
  have hg1 := hf.blk HB.out (by intro e; rcases e with e | e; exact ng.1 e; exact ng.2 e)
  have hb1 := hf.blk HB4.out (by intro e; rcases e with e | e; exact nb.1 e; exact nb.2 e)
  have z1 : w1.frozen? ⟨g, 0, none⟩ = false := hg1.frozen 0
  have zx1 : w1.frozen? ⟨b, o, none⟩ = false := hb1.frozen o
  have HRI := Lib.hid hri; have HF := Lib.hid hf
  have hfD : Fr D w w1 := hf.mono (fun i _ e => by rcases e with rfl | rfl; exact HRR.out.1; exact HRR.out.2)
  have HFD := Lib.hid hfD
  clear hri hf c0 hcx hg1 hb1 hfD HQ
  by_cases hn0 : n = 0
  · have hn1 : ¬ (n : Int) + 1 > 1 := by omega
    have hone : (r :: rest).length ≤ 1 := by have := HNN.out; rw [List.length_cons]; omega
    have hfin := H.out.turn (i := 0) (r := r) HF.out rfl (fun k hk _ => hk) HRI.out (.inl hone)
    have hct : contQ ((r :: rest).set 0 ⟨r.g, r.s, (r.f + 1) % 32, l0⟩) = l := by simp [contQ, HL.out]
    have HFIN := Lib.hid hfin; have HCT := Lib.hid hct
    clear hfin hct hone
    go_wp2_with fail
    go_ret2
    exact ⟨rfl, _, HFIN.out, HCT.out, HFD.out⟩
  · by_cases hl0 : l0 = []
    · have hn1 : (n : Int) + 1 > 1 := by omega
      have hlen := len_anyI r.g r.s 32 _ l0 w1 HRI.out
      rw [hl0, List.length_nil] at hlen
      have hcn : ¬ c = 1 := by omega
      have hrl : 1 ≤ rest.length := by have := HNN.out; omega
      have hfin := Qu.tail H.out hrl HF.out (fun k hk _ => hk) (fun x hx => by
        rcases H.out.ne with h1 | h1
        · have := HNN.out; simp at h1; simp [h1] at this; exact absurd this hn0
        · exact h1 x (List.mem_cons_of_mem _ hx)) (by rw [← HNN.out]; exact C0.out) (.pointer none)
      have hct : contQ rest = l := by rw [HL.out, hl0]; rfl
      rw [← HNN.out] at hfin
      have HFIN := Lib.hid hfin; have HCT := Lib.hid hct; have HLEN := Lib.hid hlen
      clear hfin hct hlen hl0
      go_wp2_with fail
      refine HLEN.out.mono ?_
      rintro e w' ⟨rfl, rfl⟩
      go_wp2_with fail
      go_ret2
      exact ⟨rfl, _, HFIN.out.1, HCT.out, (HFD.out.setCell (p := ⟨b, o, none⟩) (.inl HT.out) _).setCell (p := ⟨g, 0, none⟩) (.inl H.out.dg) _⟩
    · have hn1 : (n : Int) + 1 > 1 := by omega
      have hlen := len_anyI r.g r.s 32 _ l0 w1 HRI.out
      have hl00 : ¬ (l0.length : Int) = 0 := by intro e; exact hl0 (List.eq_nil_of_length_eq_zero (by omega))
      have hfin := H.out.turn (i := 0) (r := r) HF.out rfl (fun k hk _ => hk) HRI.out (.inr hl0)
      have hct : contQ ((r :: rest).set 0 ⟨r.g, r.s, (r.f + 1) % 32, l0⟩) = l := by simp [contQ, HL.out]
      have HFIN := Lib.hid hfin; have HCT := Lib.hid hct; have HLEN := Lib.hid hlen
      clear hfin hct hlen hl0
      go_wp2_with fail
      refine HLEN.out.mono ?_
      rintro e w' ⟨rfl, rfl⟩
      go_wp2_with fail
      go_ret2
      exact ⟨rfl, _, HFIN.out, HCT.out, HFD.out⟩
end
end Go.Proofs.Ytipflplilkecjaa
