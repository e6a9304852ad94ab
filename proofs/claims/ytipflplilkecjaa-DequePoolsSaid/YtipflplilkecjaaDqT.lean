
/-
  A queue of which one ring may be empty; Put; fill.
-/
import Derived.Test.YtipflplilkecjaaDqS
set_option linter.unusedVariables false
set_option linter.unusedSimpArgs false
namespace Go.Proofs.Ytipflplilkecjaa
open Go.RowKit Plain

/-- A queue of which rings may be empty. -/
structure QuW (w : World) (g : Nat) (dv : Value) (D : Nat → Prop) (rs : List QRec) : Prop where
  box : ∃ A c, Blk w g 59 #[.slice A rs.length c, dv] ∧ QRow w D A c rs
  rings : ∀ r ∈ rs, RgI w r.g r.s 32 r.f r.l ∧ D r.g ∧ D r.s
  df : ∀ (i j : Nat) (r r' : QRec), rs[i]? = some r → rs[j]? = some r' → i ≠ j → r.g ≠ r'.g ∧ r.s ≠ r'.s
  dg : D g
section
variable {w w' : World} {g : Nat} {dv : Value} {D D' : Nat → Prop} {rs : List QRec} {A : Option Addr} {c : Nat}
theorem Qu.wide (h : Qu w g dv D rs) : QuW w g dv D rs := ⟨h.box, h.rings, h.df, h.dg⟩
theorem QuW.tight (h : QuW w g dv D rs) (hne : rs.length ≤ 1 ∨ ∀ r ∈ rs, r.l ≠ []) : Qu w g dv D rs := ⟨h.box, h.rings, h.df, hne, h.dg⟩
theorem QuW.drewN (h : QuW w g dv D rs) (n : Nat) : QuW (w.drewN n) g dv D rs := by
  obtain ⟨⟨A, c, a1, a2⟩, h2, h3, h6⟩ := h
  exact ⟨⟨A, c, a1.drewN n, a2.fr (S := fun _ => False) ((Fr.refl _ w).drewN n) (fun _ _ _ _ h => h)⟩, fun r hr => ⟨(h2 r hr).1.drewN n, (h2 r hr).2⟩, h3, h6⟩
/-- Other rings of the queue stand where one has turned. -/
theorem QuW.other (h : QuW w g dv D rs) {S : Nat → Prop} (hf : Fr S w w') {i j : Nat} {r r' : QRec} (hi : rs[i]? = some r) (hj : rs[j]? = some r') (hij : i ≠ j) (hS : ∀ k, S k → D k → k = r.g ∨ k = r.s) : RgI w' r'.g r'.s 32 r'.f r'.l := by
  have hr := h.rings r (List.mem_of_getElem? hi)
  have hr' := h.rings r' (List.mem_of_getElem? hj)
  obtain ⟨t1, t2, t3, t4, t5, t6⟩ := ringT_ne
  obtain ⟨z1, -, e1, -⟩ := hr.1.row
  obtain ⟨z2, -, e2, -⟩ := hr'.1.row
  have hd := h.df i j r r' hi hj hij
  have n1 : r'.g ≠ r.g := Ne.symm hd.1
  have n2 : r'.s ≠ r.s := Ne.symm hd.2
  have n3 : r'.g ≠ r.s := Blk.ne_ hr'.1.box e1 t6
  have n4 : r'.s ≠ r.g := Blk.ne_ e2 hr.1.box (Ne.symm t6)
  exact hr'.1.fr hf (fun e => by rcases hS _ e hr'.2.1 with e | e <;> omega) (fun e => by rcases hS _ e hr'.2.2 with e | e <;> omega)
/-- One ring has turned: the queue with that ring. -/
theorem QuW.turn (h : QuW w g dv D rs) {S : Nat → Prop} (hf : Fr S w w') {i : Nat} {r : QRec} (hi : rs[i]? = some r) (hS : ∀ k, S k → D k → k = r.g ∨ k = r.s) {f : Nat} {l : List Int} (hr : RgI w' r.g r.s 32 f l) : QuW w' g dv D (rs.set i ⟨r.g, r.s, f, l⟩) := by
  have hrr := h.rings r (List.mem_of_getElem? hi)
  obtain ⟨t1, t2, t3, t4, t5, t6⟩ := ringT_ne
  obtain ⟨z1, -, e1, -⟩ := hrr.1.row
  have hil := (List.getElem?_eq_some_iff.1 hi).1
  have hset : ∀ (j : Nat) (r' : QRec), (rs.set i ⟨r.g, r.s, f, l⟩)[j]? = some r' → ∃ r0 : QRec, rs[j]? = some r0 ∧ r0.g = r'.g ∧ r0.s = r'.s := fun j r' hj => by
    by_cases hij : i = j
    · subst hij
      rw [List.getElem?_set_self hil] at hj
      injection hj with hj
      subst hj
      exact ⟨r, hi, rfl, rfl⟩
    · rw [List.getElem?_set_ne hij] at hj
      exact ⟨r', hj, rfl, rfl⟩
  obtain ⟨A, c, a1, a2⟩ := h.box
  refine ⟨⟨A, c, ?_, ?_⟩, fun r' hr' => ?_, fun j k r1 r2 h1 h2 hjk => ?_, h.dg⟩
  · rw [List.length_set]
    exact hf.blk a1 (fun e => by rcases hS _ e h.dg with e | e; exact Blk.ne_ a1 hrr.1.box (Ne.symm t1) e; exact Blk.ne_ a1 e1 (Ne.symm t2) e)
  · rcases a2 with ⟨a3, _⟩ | ⟨b, o, cs, h1, h2, h3, h0, h4, h5, h6, h7⟩
    · subst a3; simp at hi
    · refine .inr ⟨b, o, cs, h1, by simpa using h2, h3, h0, hf.blk h4 (fun e => by rcases hS _ e h6 with e | e; exact Blk.ne_ h4 hrr.1.box (Ne.symm t4) e; exact Blk.ne_ h4 e1 (Ne.symm t5) e), h5, h6, fun j r' hj => ?_⟩
      by_cases hij : i = j
      · subst hij
        rw [List.getElem?_set_self hil] at hj
        injection hj with hj
        subst hj
        exact h7 i r hi
      · rw [List.getElem?_set_ne hij] at hj
        exact h7 j r' hj
  · obtain ⟨j, hj⟩ := List.getElem?_of_mem hr'
    by_cases hij : i = j
    · subst hij
      rw [List.getElem?_set_self hil] at hj
      injection hj with hj
      subst hj
      exact ⟨hr, hrr.2.1, hrr.2.2⟩
    · rw [List.getElem?_set_ne hij] at hj
      have := h.rings r' (List.mem_of_getElem? hj)
      exact ⟨h.other hf hi hj hij hS, this.2.1, this.2.2⟩
  · obtain ⟨q1, p1, p2, p3⟩ := hset j r1 h1
    obtain ⟨q2, p4, p5, p6⟩ := hset k r2 h2
    have := h.df j k q1 q2 p1 p4 hjk
    rw [← p2, ← p3, ← p5, ← p6]
    exact this
/-- The last ring is left off. -/
theorem QuW.init {init : List QRec} {r : QRec} (h : QuW w g dv D (init ++ [r])) (hne : ∀ x ∈ init, x.l ≠ []) (hi : 1 ≤ init.length) {b o : Nat} (h0 : w.cell? ⟨g, 0, none⟩ = some (.slice (some ⟨b, o, none⟩) (init.length + 1) c)) (p : Value) :
    Qu ((w.setCell ⟨b, o + init.length, none⟩ p).setCell ⟨g, 0, none⟩ (.slice (some ⟨b, o, none⟩) init.length c)) g dv D init ∧ D b := by
  obtain ⟨t1, t2, t3, t4, t5, t6⟩ := ringT_ne
  obtain ⟨A, c', a1, a2⟩ := h.box
  have e0 := a1.cell 0
  rw [h0] at e0
  simp at e0
  obtain ⟨e1, e2⟩ := e0
  subst e1 e2
  rcases a2 with ⟨h1, _⟩ | ⟨b', o', cs, h1, h2, h3, h30, h4, h5, h6, h7⟩
  · simp at h1
  injection h1 with h1
  injection h1 with h1 h1'
  subst h1 h1'
  have hgb : g ≠ b := Blk.ne_ a1 h4 (Ne.symm t3)
  have hfr : Fr (fun k => k = b ∨ k = g) w ((w.setCell ⟨b, o + init.length, none⟩ p).setCell ⟨g, 0, none⟩ (.slice (some ⟨b, o, none⟩) init.length c)) := ((Fr.refl (fun k => k = b ∨ k = g) w).setCell (p := ⟨b, o + init.length, none⟩) (.inl (.inl rfl)) p).setCell (p := ⟨g, 0, none⟩) (.inl (.inr rfl)) _
  simp at h2
  refine ⟨⟨⟨some ⟨b, o, none⟩, c, ?_, .inr ⟨b, o, cs.set (o + init.length) p, rfl, by omega, by omega, by omega, ?_, by simp; omega, h6, fun i x hi' => ?_⟩⟩, fun x hx => ?_, fun i j x y hi' hj hij => ?_, .inr hne, h.dg⟩, h6⟩
  · have := (a1.far (p := ⟨b, o + init.length, none⟩) hgb p).set_ 0 (.slice (some ⟨b, o, none⟩) init.length c)
    simpa using this
  · have := (h4.set_ (o + init.length) p).far (p := ⟨g, 0, none⟩) (Ne.symm hgb) (.slice (some ⟨b, o, none⟩) init.length c)
    simpa using this
  · have hil := (List.getElem?_eq_some_iff.1 hi').1
    rw [List.getElem?_set_ne (by omega)]
    exact h7 i x (by rw [List.getElem?_append_left hil]; exact hi')
  · have hx' := h.rings x (List.mem_append_left _ hx)
    obtain ⟨z2, -, e2, -⟩ := hx'.1.row
    refine ⟨hx'.1.fr hfr (fun e => ?_) (fun e => ?_), hx'.2.1, hx'.2.2⟩
    · rcases e with e | e
      · exact Blk.ne_ hx'.1.box h4 t4 e
      · exact Blk.ne_ hx'.1.box a1 t1 e
    · rcases e with e | e
      · exact Blk.ne_ e2 h4 t5 e
      · exact Blk.ne_ e2 a1 t2 e
  · have hil := (List.getElem?_eq_some_iff.1 hi').1
    have hjl := (List.getElem?_eq_some_iff.1 hj).1
    exact h.df i j x y (by rw [List.getElem?_append_left hil]; exact hi') (by rw [List.getElem?_append_left hjl]; exact hj) hij
theorem snoc_of {α : Type} {l : List α} (h : l ≠ []) : ∃ init r, l = init ++ [r] := ⟨l.dropLast, l.getLast h, (List.dropLast_concat_getLast h).symm⟩
end

set_option maxHeartbeats 2000000 in
theorem put_q_room (g : Nat) (dv : Value) (D : Nat → Prop) (init : List QRec) (r : QRec) (w : World) (x : Int) (h : Qu w g dv D (init ++ [r])) (hr : r.l.length < 32) (hN : (contQ (init ++ [r])).length ≤ 999999) :
    Calls Try.prog 35 #[.pointer (some ⟨g, 0, none⟩), .int .i64 x] w fun e w' => e = .returned (.tuple #[]) ∧ ∃ rs', Qu w' g dv D rs' ∧ contQ rs' = contQ (init ++ [r]) ++ [x] ∧ Fr D w w' := by
  have hcnt := h.cnt (by omega)
  obtain ⟨A, c, hb, hrow⟩ := h.box
  obtain ⟨n, hn⟩ : ∃ n, n = init.length := ⟨_, rfl⟩
  have hlen : (init ++ [r]).length = n + 1 := by simp [hn]
  rw [hlen] at hcnt
  have hgi : (init ++ [r])[n]? = some r := by rw [hn]; simp
  have c0 : w.cell? ⟨g, 0, none⟩ = some (.slice A (n + 1) c) := by rw [hb.cell, hlen]; rfl
  obtain ⟨ad, rfl, hcx, _⟩ := hrow.cell (i := n) (r := r) hgi
  have hri := (h.rings r (by simp))
  have hq := push_yesI r.g r.s 32 r.f r.l w hri.1 x hr
  have hset : (init ++ [r]).set n ⟨r.g, r.s, r.f, r.l ++ [x]⟩ = init ++ [⟨r.g, r.s, r.f, r.l ++ [x]⟩] := by rw [hn, List.set_append_right _ _ (Nat.le_refl _)]; simp
  have HQ := Lib.hid hq; have H := Lib.hid h; have HGI := Lib.hid hgi; have HRI := Lib.hid hri; have HSET := Lib.hid hset
  have hw1 : IntKind.i64.wrap (((n + 1 : Nat) : Int) - 1) = (n : Int) := by rw [IntWalk.i64_in _ (by omega)]; omega
  clear h hrow hb hn hri hq hlen hr hgi hset
  go_enter Try.func35, Try.ntmps35
  go_wp2_with fail
  refine HQ.out.mono ?_
  rintro e w1 ⟨rfl, hri, hf⟩
  have hfin := H.out.turn hf HGI.out (fun k hk _ => hk) hri (.inr (by simp))
  rw [HSET.out] at hfin
  have hfD : Fr D w w1 := hf.mono (fun i _ e => by rcases e with rfl | rfl; exact HRI.out.2.1; exact HRI.out.2.2)
  have HFIN := Lib.hid hfin; have HFD := Lib.hid hfD
  clear hri hf hfin hfD HQ hcx
  go_wp2_with fail
  go_end0
  exact ⟨rfl, _, HFIN.out, by simp [contQ], HFD.out⟩

theorem put_q (g : Nat) (dv : Value) (D : Nat → Prop) (rs : List QRec) (w : World) (x : Int) (h : Qu w g dv D rs) (hN : (contQ rs).length ≤ 999999) :
    Calls Try.prog 35 #[.pointer (some ⟨g, 0, none⟩), .int .i64 x] w fun e w' => e = .returned (.tuple #[]) ∧ ∃ rs', Qu w' g dv (fun i => D i ∨ (w.heap.size ≤ i ∧ i < w'.heap.size)) rs' ∧ contQ rs' = contQ rs ++ [x] ∧ Fr D w w' := by
  by_cases h0 : rs = []
  · subst h0
    exact put_q_nil g dv D w x h
  · obtain ⟨init, r, rfl⟩ := snoc_of h0
    by_cases hr : r.l.length < 32
    · refine (put_q_room g dv D init r w x h hr hN).mono ?_
      rintro e w' ⟨rfl, rs', h1, h2, h3⟩
      exact ⟨rfl, rs', h1.mono (fun i hi _ => .inl hi), h2, h3⟩
    · exact put_q_full g dv D init r w x h (by omega) hN

theorem contQ_two {rs : List QRec} {k : Nat} {a b a' b' : QRec} (ha : rs[k]? = some a) (hb : rs[k + 1]? = some b) (he : a'.l ++ b'.l = a.l ++ b.l) : contQ ((rs.set (k + 1) b').set k a') = contQ rs := by
  have hk := (List.getElem?_eq_some_iff.1 ha).1
  have hk1 := (List.getElem?_eq_some_iff.1 hb).1
  have e1 := (List.getElem?_eq_some_iff.1 ha).2
  have e2 := (List.getElem?_eq_some_iff.1 hb).2
  have h1 : rs = rs.take k ++ a :: b :: rs.drop (k + 1 + 1) := by
    rw [← e2, ← List.drop_eq_getElem_cons hk1, ← e1, ← List.drop_eq_getElem_cons hk, List.take_append_drop]
  have h2 : (rs.set (k + 1) b').set k a' = rs.take k ++ a' :: b' :: rs.drop (k + 1 + 1) := by
    apply List.ext_getElem?
    intro j
    rw [List.getElem?_set, List.getElem?_set]
    by_cases hj : j < k
    · rw [if_neg (by omega), if_neg (by omega), List.getElem?_append_left (by simp; omega), List.getElem?_take_of_lt hj]
    · rw [List.getElem?_append_right (by simp; omega)]
      simp only [List.length_take, Nat.min_eq_left (Nat.le_of_lt hk)]
      rcases Nat.eq_or_lt_of_le (Nat.le_of_not_lt hj) with h | h
      · subst h
        simp; omega
      · rcases Nat.eq_or_lt_of_le (Nat.succ_le_of_lt h) with h' | h'
        · have : j = k + 1 := by omega
          subst this
          simp; omega
        · rw [if_neg (by omega), if_neg (by omega)]
          obtain ⟨d, rfl⟩ : ∃ d, j = k + 2 + d := ⟨j - (k + 2), by omega⟩
          rw [show k + 2 + d - k = d + 1 + 1 by omega, List.getElem?_cons_succ, List.getElem?_cons_succ, List.getElem?_drop]
  rw [h2]
  have h3 : contQ rs = contQ (rs.take k ++ a :: b :: rs.drop (k + 1 + 1)) := by rw [← h1]
  rw [h3]
  simp only [contQ, List.flatMap_append, List.flatMap_cons]
  rw [← List.append_assoc a'.l, he, List.append_assoc a.l]
end Go.Proofs.Ytipflplilkecjaa
