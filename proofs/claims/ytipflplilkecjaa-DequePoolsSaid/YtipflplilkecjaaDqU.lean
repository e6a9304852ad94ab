
/-
  fill: rings are filled up out of those behind them.
-/
import Derived.Test.YtipflplilkecjaaDqT
set_option linter.unusedVariables false
set_option linter.unusedSimpArgs false
namespace Go.Proofs.Ytipflplilkecjaa
open Go.RowKit Plain

/-- Where fill stands. -/
structure FillI (w wr : World) (g : Nat) (dv : Value) (D : Nat → Prop) (n k : Nat) (L : List Int) (rk : List QRec) : Prop where
  q : QuW wr g dv D rk
  len : rk.length = n
  cont : contQ rk = L
  ne : ∀ (j : Nat) (r : QRec), rk[j]? = some r → j ≠ k → r.l ≠ []
  fr : Fr D w wr
  c0 : wr.heap[g]? = w.heap[g]?

theorem fillI_step {w wr w1 : World} {g : Nat} {dv : Value} {D : Nat → Prop} {n k : Nat} {L : List Int} {rk : List QRec} (h : FillI w wr g dv D n k L rk) {a b : QRec} (ha : rk[k]? = some a) (hb : rk[k + 1]? = some b) {N f f2 : Nat} (hN : N = min b.l.length (32 - a.l.length))
    (hra : RgI w1 a.g a.s 32 f2 (a.l ++ b.l.take N)) (hrb : RgI w1 b.g b.s 32 f (b.l.drop N)) (hf : Fr (fun i => (i = b.g ∨ i = b.s) ∨ (i = a.g ∨ i = a.s)) wr w1) :
    FillI w w1 g dv D n (k + 1) L ((rk.set (k + 1) ⟨b.g, b.s, f, b.l.drop N⟩).set k ⟨a.g, a.s, f2, a.l ++ b.l.take N⟩) := by
  obtain ⟨t1, t2, t3, t4, t5, t6⟩ := ringT_ne
  have hA := h.q.rings a (List.mem_of_getElem? ha)
  have hB := h.q.rings b (List.mem_of_getElem? hb)
  obtain ⟨za, -, ea, -⟩ := hA.1.row
  obtain ⟨zb, -, eb, -⟩ := hB.1.row
  have hk := (List.getElem?_eq_some_iff.1 ha).1
  have hk1 := (List.getElem?_eq_some_iff.1 hb).1
  obtain ⟨A, c, a1, a2⟩ := h.q.box
  have hgn : ¬ ((g = b.g ∨ g = b.s) ∨ (g = a.g ∨ g = a.s)) := by
    rintro ((e | e) | (e | e))
    · exact Blk.ne_ a1 hB.1.box (Ne.symm t1) e
    · exact Blk.ne_ a1 eb (Ne.symm t2) e
    · exact Blk.ne_ a1 hA.1.box (Ne.symm t1) e
    · exact Blk.ne_ a1 ea (Ne.symm t2) e
  have hsetk : ∀ (j : Nat) (r : QRec), ((rk.set (k + 1) ⟨b.g, b.s, f, b.l.drop N⟩).set k ⟨a.g, a.s, f2, a.l ++ b.l.take N⟩)[j]? = some r → (j = k ∧ r = ⟨a.g, a.s, f2, a.l ++ b.l.take N⟩) ∨ (j = k + 1 ∧ r = ⟨b.g, b.s, f, b.l.drop N⟩) ∨ (j ≠ k ∧ j ≠ k + 1 ∧ rk[j]? = some r) := fun j r hj => by
    by_cases h1 : j = k
    · subst h1
      rw [List.getElem?_set_self (by simp; omega)] at hj
      injection hj with hj
      exact .inl ⟨rfl, hj.symm⟩
    · rw [List.getElem?_set_ne (Ne.symm h1)] at hj
      by_cases h2 : j = k + 1
      · subst h2
        rw [List.getElem?_set_self hk1] at hj
        injection hj with hj
        exact .inr (.inl ⟨rfl, hj.symm⟩)
      · rw [List.getElem?_set_ne (Ne.symm h2)] at hj
        exact .inr (.inr ⟨h1, h2, hj⟩)
  refine ⟨⟨⟨A, c, ?_, ?_⟩, fun r hr => ?_, fun i j r r' hi hj hij => ?_, h.q.dg⟩, by rw [List.length_set, List.length_set]; exact h.len, ?_, fun j r hj hjk => ?_, ?_, ?_⟩
  · rw [List.length_set, List.length_set]
    exact hf.blk a1 hgn
  · rcases a2 with ⟨e0, _⟩ | ⟨bb, o, cs, h1, h2, h3, h0, h4, h5, h6, h7⟩
    · subst e0; simp at ha
    · have hbn : ¬ ((bb = b.g ∨ bb = b.s) ∨ (bb = a.g ∨ bb = a.s)) := by
        rintro ((e | e) | (e | e))
        · exact Blk.ne_ h4 hB.1.box (Ne.symm t4) e
        · exact Blk.ne_ h4 eb (Ne.symm t5) e
        · exact Blk.ne_ h4 hA.1.box (Ne.symm t4) e
        · exact Blk.ne_ h4 ea (Ne.symm t5) e
      refine .inr ⟨bb, o, cs, h1, by rw [List.length_set, List.length_set]; exact h2, h3, h0, hf.blk h4 hbn, h5, h6, fun j r hj => ?_⟩
      rcases hsetk j r hj with ⟨rfl, rfl⟩ | ⟨rfl, rfl⟩ | ⟨_, _, hj⟩
      · exact h7 _ a ha
      · exact h7 _ b hb
      · exact h7 j r hj
  · obtain ⟨j, hj⟩ := List.getElem?_of_mem hr
    rcases hsetk j r hj with ⟨rfl, rfl⟩ | ⟨rfl, rfl⟩ | ⟨q1, q2, hj⟩
    · exact ⟨hra, hA.2⟩
    · exact ⟨hrb, hB.2⟩
    · have hx := h.q.rings r (List.mem_of_getElem? hj)
      obtain ⟨zx, -, ex, -⟩ := hx.1.row
      have d1 := h.q.df j k r a hj ha q1
      have d2 := h.q.df j (k + 1) r b hj hb q2
      refine ⟨hx.1.fr hf ?_ ?_, hx.2⟩
      · rintro ((e | e) | (e | e))
        · exact d2.1 e
        · exact Blk.ne_ hx.1.box eb t6 e
        · exact d1.1 e
        · exact Blk.ne_ hx.1.box ea t6 e
      · rintro ((e | e) | (e | e))
        · exact Blk.ne_ ex hB.1.box (Ne.symm t6) e
        · exact d2.2 e
        · exact Blk.ne_ ex hA.1.box (Ne.symm t6) e
        · exact d1.2 e
  · have hs : ∀ (j : Nat) (r : QRec), ((rk.set (k + 1) ⟨b.g, b.s, f, b.l.drop N⟩).set k ⟨a.g, a.s, f2, a.l ++ b.l.take N⟩)[j]? = some r → ∃ r0 : QRec, rk[j]? = some r0 ∧ r0.g = r.g ∧ r0.s = r.s := fun j r hj => by
      rcases hsetk j r hj with ⟨rfl, rfl⟩ | ⟨rfl, rfl⟩ | ⟨q1, q2, hj⟩
      · exact ⟨a, ha, rfl, rfl⟩
      · exact ⟨b, hb, rfl, rfl⟩
      · exact ⟨r, hj, rfl, rfl⟩
    obtain ⟨r0, p1, p2, p3⟩ := hs i r hi
    obtain ⟨r1, p4, p5, p6⟩ := hs j r' hj
    have := h.q.df i j r0 r1 p1 p4 hij
    rw [← p2, ← p3, ← p5, ← p6]
    exact this
  · rw [contQ_two ha hb (by simp), h.cont]
  · have hbne := h.ne (k + 1) b hb (by omega)
    have hbl : 0 < b.l.length := List.length_pos_iff.2 hbne
    rcases hsetk j r hj with ⟨rfl, rfl⟩ | ⟨rfl, rfl⟩ | ⟨q1, q2, hj⟩
    · intro e
      have e' := congrArg List.length e
      simp at e'
      have := e'.2
      rcases this with e2 | e2
      · rw [e'.1] at hN
        simp at hN
        omega
      · rw [e2] at hbl; simp at hbl
    · exact absurd rfl hjk
    · exact h.ne j r hj q1
  · exact h.fr.trans hf (fun i _ e => by rcases e with (rfl | rfl) | (rfl | rfl); exact hB.2.1; exact hB.2.2; exact hA.2.1; exact hA.2.2)
  · exact (hf.block g a1.lt hgn).trans h.c0

/-- The row of a queue, where its box is known. -/
theorem QuW.row {w : World} {g : Nat} {dv : Value} {D : Nat → Prop} {rs : List QRec} (h : QuW w g dv D rs) {A : Option Addr} {n c : Nat} (h0 : w.cell? ⟨g, 0, none⟩ = some (.slice A n c)) : rs.length = n ∧ QRow w D A c rs ∧ Blk w g 59 #[.slice A n c, dv] := by
  obtain ⟨A', c', a1, a2⟩ := h.box
  have e0 := a1.cell 0
  rw [h0] at e0
  simp at e0
  obtain ⟨e1, e2, e3⟩ := e0
  subst e1 e2 e3
  exact ⟨rfl, a2, a1⟩

set_option maxRecDepth 100000 in
set_option maxHeartbeats 4000000 in
theorem fill_q (g : Nat) (dv : Value) (D : Nat → Prop) (rs : List QRec) (i : Nat) (w : World) (h : QuW w g dv D rs) (hi : i < rs.length) (hne : ∀ (j : Nat) (r : QRec), rs[j]? = some r → j ≠ i → r.l ≠ []) (hN : rs.length ≤ 1000000) :
    Calls Try.prog 65 #[.pointer (some ⟨g, 0, none⟩), .int .i64 (i : Int)] w fun e w' => e = .returned (.tuple #[]) ∧ ∃ rs', Qu w' g dv D rs' ∧ contQ rs' = contQ rs ∧ Fr D w w' := by
  obtain ⟨t1, t2, t3, t4, t5, t6⟩ := ringT_ne
  obtain ⟨A, c, hb, hrow⟩ := h.box
  obtain ⟨m, hm⟩ : ∃ m, rs.length = m + 1 := ⟨rs.length - 1, by omega⟩
  have c0 : w.cell? ⟨g, 0, none⟩ = some (.slice A (m + 1) c) := by rw [hb.cell, hm]; rfl
  obtain ⟨b, o, rfl⟩ : ∃ b o, A = some ⟨b, o, none⟩ := by
    rcases hrow with ⟨e0, _⟩ | ⟨b, o, cs, h1, _⟩
    · subst e0; simp at hi
    · exact ⟨b, o, h1⟩
  have hst : FillI w w g dv D (m + 1) i (contQ rs) rs := ⟨h, hm, rfl, hne, Fr.refl _ _, rfl⟩
  have hw1 : IntKind.i64.wrap (((m + 1 : Nat) : Int) - 1) = (m : Int) := by rw [IntWalk.i64_in _ (by omega)]; omega
  have him : i ≤ m := by omega
  have hm1 : m ≤ 1000000 := by omega
  have HST := Lib.hid hst; have C0 := Lib.hid c0
  obtain ⟨L, hL⟩ : ∃ L, L = contQ rs := ⟨_, rfl⟩
  rw [← hL] at HST
  have HL := Lib.hid hL
  clear hb hrow hm h hne hst hN hi hL
  go_enter Try.func65, Try.ntmps65
  go_wp2_with fail
  clear c0
  go_loopw [1] (fun s1 wr => ∃ (k : Nat) (rk : List QRec), k ≤ m ∧ s1 = .int .i64 (k : Int) ∧ Hid (FillI w wr g dv D (m + 1) k L rk)) (fun s1 _ => m - (intOf s1).toNat)
  case atStart => exact ⟨i, rs, him, rfl, HST⟩
  case round =>
    clear HST
    obtain ⟨k, rk, hk, rfl, HK⟩ := hrel
    have c0 : wr.cell? ⟨g, 0, none⟩ = some (.slice (some ⟨b, o, none⟩) (m + 1) c) := (World.cell?_of_block (a := ⟨g, 0, none⟩) HK.out.c0).trans C0.out
    obtain ⟨hlen, hrow, hbx⟩ := HK.out.q.row c0
    have z0 : wr.frozen? ⟨g, 0, none⟩ = false := hbx.frozen 0
    rcases hrow with ⟨e0, _⟩ | ⟨b', o', cs, h1, h2, h3, h30, h4, h5, h6, h7⟩
    · subst e0; simp at hlen
    injection h1 with h1
    injection h1 with h1 h1'
    subst h1 h1'
    by_cases hlt : k < m
    · have ha : rk[k]? = some rk[k] := List.getElem?_eq_getElem (by omega)
      have hb : rk[k + 1]? = some rk[k + 1] := List.getElem?_eq_getElem (by omega)
      generalize rk[k] = a at *
      generalize rk[k + 1] = bb at *
      have ca : wr.cell? ⟨b, o + k, none⟩ = some (.pointer (some ⟨a.g, 0, none⟩)) := by
        rw [h4.cell]
        simpa using h7 k a ha
      have cb : wr.cell? ⟨b, o + (k + 1), none⟩ = some (.pointer (some ⟨bb.g, 0, none⟩)) := by
        rw [h4.cell]
        simpa using h7 (k + 1) bb hb
      have hA := HK.out.q.rings a (List.mem_of_getElem? ha)
      have hB := HK.out.q.rings bb (List.mem_of_getElem? hb)
      obtain ⟨za, -, ea, -⟩ := hA.1.row
      obtain ⟨zb, -, eb, -⟩ := hB.1.row
      have hdf := HK.out.q.df (k + 1) k bb a hb ha (by omega)
      have hmv : Calls Try.prog 68 #[.pointer (some ⟨bb.g, 0, none⟩), .pointer (some ⟨a.g, 0, none⟩)] wr.drew fun e w1 => ∃ v, e = .returned v ∧ ∃ rk', Hid (FillI w w1 g dv D (m + 1) (k + 1) L rk') ∧
          w1.cell? ⟨g, 0, none⟩ = some (.slice (some ⟨b, o, none⟩) (m + 1) c) ∧ w1.cell? ⟨b, o + k, none⟩ = some (.pointer (some ⟨a.g, 0, none⟩)) ∧ w1.cell? ⟨b, o + (k + 1), none⟩ = some (.pointer (some ⟨bb.g, 0, none⟩)) := by
        refine (move_any bb.g bb.s 32 bb.f a.g a.s 32 a.f bb.l a.l wr.drew hB.1.drew hA.1.drew hdf.1 (Blk.ne_ hB.1.box ea t6) (Ne.symm (Blk.ne_ hA.1.box eb t6)) hdf.2 _ rfl).mono ?_
        rintro e w1 ⟨f, f2, rfl, q1, q2, hf⟩
        have hf' : Fr (fun i => (i = bb.g ∨ i = bb.s) ∨ (i = a.g ∨ i = a.s)) wr w1 := Fr.drew_in (n := 1) hf
        have hstep := fillI_step HK.out ha hb rfl q2 q1 hf'
        have hbn : ¬ ((b = bb.g ∨ b = bb.s) ∨ (b = a.g ∨ b = a.s)) := by
          rintro ((e | e) | (e | e))
          · exact Blk.ne_ h4 hB.1.box (Ne.symm t4) e
          · exact Blk.ne_ h4 eb (Ne.symm t5) e
          · exact Blk.ne_ h4 hA.1.box (Ne.symm t4) e
          · exact Blk.ne_ h4 ea (Ne.symm t5) e
        refine ⟨_, rfl, _, Lib.hid hstep, (World.cell?_of_block (a := ⟨g, 0, none⟩) hstep.c0).trans C0.out, ?_, ?_⟩
        · rw [← ca]; exact World.cell?_of_block (a := ⟨b, o + k, none⟩) (hf'.block b h4.lt hbn)
        · rw [← cb]; exact World.cell?_of_block (a := ⟨b, o + (k + 1), none⟩) (hf'.block b h4.lt hbn)
      have HMV := Lib.hid hmv
      have hik1 : IntKind.i64.wrap ((k : Int) + 1) = (k : Int) + 1 := IntWalk.i64_in _ (by omega)
      have hkb : (k : Int) + 1 < (m : Int) + 1 := by omega
      have hk0 : (0 : Int) ≤ (k : Int) := by omega
      have hk1 : (0 : Int) ≤ (k : Int) + 1 := by omega
      have hk2 : (k : Int) < (m : Int) + 1 := by omega
      clear hmv hA hB ha hb ea eb hdf h4 h5 h6 h7 hlen hbx h2 HK
      go_wp2_with fail
      go_region_held3 (fun w' => w'.cell? ⟨g, 0, none⟩ = some (.slice (some ⟨b, o, none⟩) (m + 1) c) ∧ w'.cell? ⟨b, o + k, none⟩ = some (.pointer (some ⟨a.g, 0, none⟩)) ∧ w'.cell? ⟨b, o + (k + 1), none⟩ = some (.pointer (some ⟨bb.g, 0, none⟩)))
        (first | (with_reducible exact ⟨c0, ca, cb⟩) | (with_reducible exact ⟨d0, d1, d2⟩) | go_keep)
        (first
          | (go_simp; with_reducible refine HMV.out.mono ?_
             rintro e w1 ⟨v, rfl, rk', HK', d0, d1, d2⟩)
          | fail)
      all_goals
        go_wp2_with fail
        exact ⟨⟨k + 1, rk', by omega, by go_num, HK'⟩, by simp [intOf]; omega⟩
    · have hkm : k = m := by omega
      subst hkm
      by_cases hm0 : k = 0
      · have hfin := HK.out.q.tight (.inl (by rw [hlen]; omega))
        have HFIN := Lib.hid hfin
        have hgt : ¬ (k : Int) > 0 := by omega
        have HM0 := Lib.hid hm0
        clear hm0 h4 h5 h6 h7 hlen hbx h2 hfin
        go_wp2_with fail
        go_end0
        exact ⟨rfl, rk, HFIN.out, by rw [HK.out.cont]; exact HL.out, HK.out.fr⟩
      · have hgt : (k : Int) > 0 := by omega
        obtain ⟨init, r, rfl⟩ := snoc_of (show rk ≠ [] by intro e; subst e; simp at hlen)
        have hil : init.length = k := by simpa using hlen
        have hr : (init ++ [r])[k]? = some r := by rw [← hil]; simp
        have hq := HK.out.q.rings r (by simp)
        have hlr := len_anyI r.g r.s 32 r.f r.l wr hq.1
        have cr : wr.cell? ⟨b, o + k, none⟩ = some (.pointer (some ⟨r.g, 0, none⟩)) := by
          rw [h4.cell]
          simpa using h7 k r hr
        have zr : wr.frozen? ⟨b, o + k, none⟩ = false := h4.frozen _
        have hk0 : (0 : Int) ≤ (k : Int) := by omega
        have hk2 : (k : Int) < (k : Int) + 1 := by omega
        have hne : ∀ x ∈ init, x.l ≠ [] := fun x hx => by
          obtain ⟨j, hj⟩ := List.getElem?_of_mem hx
          have hjl := (List.getElem?_eq_some_iff.1 hj).1
          exact HK.out.ne j x (by rw [List.getElem?_append_left hjl]; exact hj) (by omega)
        have hbg : ¬ b = g := Blk.ne_ h4 hbx t3
        have hgb : ¬ g = b := fun e => hbg e.symm
        have hbl := h4.lt; have hgl := hbx.lt
        by_cases hl0 : r.l = []
        · have hfin := QuW.init HK.out.q hne (by omega) (by rw [hil]; exact c0) (.pointer none)
          rw [hl0, List.length_nil] at hlr
          rw [hil] at hfin
          have hct : contQ init = contQ rs := by
            have := HK.out.cont
            rw [HL.out] at this
            rw [← this]
            simp [contQ, hl0]
          have HFIN := Lib.hid hfin; have HCT := Lib.hid hct; have HLR := Lib.hid hlr
          have hkc : k ≤ c := by simp at h2; omega
          have hkc2 : (k : Int) ≤ (c : Int) := by omega
          clear hm0 h4 h5 h6 h7 hlen hbx h2 hfin hct hlr hq hl0 hil hr hne
          go_wp2_with fail
          refine HLR.out.mono ?_
          rintro e w' ⟨rfl, rfl⟩
          go_wp2_with fail
          go_end0
          exact ⟨rfl, init, HFIN.out.1, HCT.out, (HK.out.fr.setCell (p := ⟨b, o + k, none⟩) (.inl HFIN.out.2) _).setCell (p := ⟨g, 0, none⟩) (.inl HFIN.out.1.dg) _⟩
        · have hfin := HK.out.q.tight (.inr (fun x hx => by
            rw [List.mem_append] at hx
            rcases hx with hx | hx
            · exact hne x hx
            · simp at hx
              subst hx
              exact hl0))
          have hl00 : ¬ (r.l.length : Int) = 0 := by intro e; exact hl0 (List.eq_nil_of_length_eq_zero (by omega))
          have HFIN := Lib.hid hfin; have HLR := Lib.hid hlr
          clear hm0 h4 h5 h6 h7 hlen hbx h2 hfin hlr hq hl0 hil hr hne
          go_wp2_with fail
          refine HLR.out.mono ?_
          rintro e w' ⟨rfl, rfl⟩
          go_wp2_with fail
          go_end0
          exact ⟨rfl, _, HFIN.out, by rw [HK.out.cont]; exact HL.out, HK.out.fr⟩
end Go.Proofs.Ytipflplilkecjaa
