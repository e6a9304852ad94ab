
/-
  Cancel: a thread waits to receive no more.
-/
import Derived.Test.YtbgigkamlnchcaaChHr
set_option linter.unusedVariables false
set_option linter.unusedSimpArgs false
namespace Go.Proofs.Ytbgigkamlnchcaa
open Go.RowKit Go.Shelf Plain
attribute [local go_sem] Oper.semAt_some

/-- Only what is no row of cells has turned. -/
def NoCells (W W' : World) : Prop := ∃ row, W.grownBy W' row ∧ ∀ r, row = some r → ∃ o : Obj, W.heap[r]? = some o ∧ o.isCells = false
theorem NoCells.alloc (W : World) (o : Obj) : NoCells W (W.alloc o) := ⟨none, World.grownBy_alloc W o none, fun r e => by cases e⟩
theorem NoCells.put {W : World} {k : Nat} {o : Obj} (o' : Obj) (h : W.heap[k]? = some o) (hc : o.isCells = false) : NoCells W (W.putObj k o') := ⟨some k, grownBy_putObj' W k o', fun r e => by cases e; exact ⟨o, h, hc⟩⟩
theorem Blk.noCells {W W' : World} {g : Nat} {t : TypeId} {cs : Array Value} (h : Blk W g t cs) (hn : NoCells W W') : Blk W' g t cs := by
  obtain ⟨row, hg, hr⟩ := hn
  refine h.grown hg (fun e => ?_)
  obtain ⟨o, ho, hc⟩ := hr g e.symm
  unfold Blk at h
  rw [h] at ho
  cases ho
  simp [Obj.isCells] at hc
theorem NoCells.cell {W W' : World} (hn : NoCells W W') {p : Addr} {v : Value} (h : W.cell? p = some v) : W'.cell? p = some v := by
  obtain ⟨row, hg, hr⟩ := hn
  exact cell_kept h hg hr
theorem NoCells.size {W W' : World} (hn : NoCells W W') : W.heap.size ≤ W'.heap.size := by
  obtain ⟨row, hg, hr⟩ := hn
  exact hg.size
theorem RN.noCells {W W' : World} {D : Nat → Prop} {A : Option Addr} {c : Nat} {L : List Int} (h : RN W D A c L) (hn : NoCells W W') : RN W' D A c L :=
  ⟨h.1, fun h0 => by
    obtain ⟨ad, e, hd, hb, hc⟩ := h.2 h0
    exact ⟨ad, e, hd, Nat.lt_of_lt_of_le hb hn.size, fun j x hj => hn.cell (hc j x hj)⟩⟩
theorem OwnS.noCells {W W' : World} {B : Nat} {D : Nat → Prop} {v : Value} {L : List (List Int)} (h : OwnS W B D v L) (hn : NoCells W W') : OwnS W' B D v L := by
  obtain ⟨vs, h1, h2⟩ := h
  refine ⟨vs, ⟨h1.1, ?_⟩, fun i l hi => ?_⟩
  · rcases h1.2 with h0 | ⟨g, cap, cur, h3, hb, hc, hr⟩
    · exact .inl h0
    · have hblk : Blk W g 25 cur := hc
      exact .inr ⟨g, cap, cur, h3, hb, hblk.noCells hn, hr⟩
  · obtain ⟨A, c, h3, h4⟩ := h2 i l hi
    exact ⟨A, c, h3, h4.noCells hn⟩
theorem ChM.noCells {W W' : World} {B : Nat} {h : ChH} {s : Ck} (H : ChM W B h s) (hn : NoCells W W') : ChM W' B h s :=
  ⟨H.box.noCells hn, H.bf.noCells hn, H.sq.noCells hn, H.rq.noCells hn, H.n1, H.n2, H.n3, fun k hk => Nat.lt_of_lt_of_le (H.xlt k hk) hn.size⟩
set_option maxHeartbeats 1000000 in
theorem waitsAt_any (w : World) (g : Nat) (t : Int) :
    Calls Try.prog 38 #[.pointer (some ⟨g, 0, none⟩), .int .i64 t] w fun e w' => e = .returned (.func (.func 48) #[] #[.pointer (some ⟨w.heap.size, 0, none⟩), .pointer (some ⟨w.heap.size + 1, 0, none⟩)]) ∧
      w' = (w.alloc (.cells #[.pointer (some ⟨g, 0, none⟩)] 33)).alloc (.cells #[.int .i64 t] 3) := by
  go_enter Try.func38, Try.ntmps38
  go_wp2_with fail
  go_ret
  exact ⟨rfl, rfl⟩
/-- Where the loop of Cancel stands. -/
structure CanI (w : World) (B : Nat) (h : ChH) (s : Ck) (t : Int) (pre : List Nat) (W : World) : Prop where
  b0 : Blk W w.heap.size 33 #[.pointer (some ⟨h.g, 0, none⟩)]
  b1 : Blk W (w.heap.size + 1) 3 #[.int .i64 t]
  b2 : Blk W (w.heap.size + 1 + 1) 4 #[.bool (!pre.isEmpty)]
  b3 : Blk W (w.heap.size + 1 + 1 + 1) 33 #[.pointer (some ⟨h.g, 0, none⟩)]
  b4 : Blk W (w.heap.size + 1 + 1 + 1 + 1) 3 #[.int .i64 t]
  st : ∃ rq, ChM W B { h with X := fun k => h.X k ∨ (w.heap.size ≤ k ∧ k < w.heap.size + 5) } { s with rq := rq } ∧ rq.length = s.rq.length ∧ ∀ k, gl rq k = if k ∈ pre then wo t (gl s.rq k) else gl s.rq k
  fr : Fr h.W w W
theorem CanI.put {w W W' : World} {B : Nat} {h : ChH} {s : Ck} {t : Int} {pre : List Nat} (H : CanI w B h s t pre W) (hn : NoCells W W') (hf : Fr (fun k => w.heap.size ≤ k) W W') : CanI w B h s t pre W' := by
  obtain ⟨rq, h1, h2, h3⟩ := H.st
  exact ⟨H.b0.noCells hn, H.b1.noCells hn, H.b2.noCells hn, H.b3.noCells hn, H.b4.noCells hn, ⟨rq, h1.noCells hn, h2, h3⟩, H.fr.trans hf (fun i hi e => by omega)⟩
theorem putObj_fr {w : World} (W : World) (k : Nat) (o' : Obj) (hk : w.heap.size ≤ k) : Fr (fun i => w.heap.size ≤ i) W (W.putObj k o') :=
  Fr.of_grown (grownBy_putObj' W k o') |>.mono (fun i _ h => by cases h; exact hk)
theorem alloc_fr {w : World} (W : World) (o : Obj) : Fr (fun i => w.heap.size ≤ i) W (W.alloc o) := ((Fr.refl (fun _ => False) W).alloc o).mono (fun _ _ h => h.elim)
/-- A row is turned, and it is noted. -/
theorem CanI.next {w W W2 : World} {B : Nat} {h : ChH} {s : Ck} {t : Int} {pre : List Nat} {x : Nat} (H : CanI w B h s t pre W) (hx : x < s.rq.length) (hb : Below W.heap.size W W2) {A : Option Addr} {k c b cap : Nat} (hr : RN W2 (fun i => W.heap.size ≤ i) A c (wo t (gl s.rq x))) (hk : (wo t (gl s.rq x)).length = k)
    (hv : h.vr = .slice (some ⟨b, 0, none⟩) s.rq.length cap) : CanI w B h s t (pre ++ [x]) ((W2.setCell ⟨b, x, none⟩ (.slice A k c)).setCell ⟨w.heap.size + 1 + 1, 0, none⟩ (.bool true)) ∧
      KeepsFrom (w.heap.size + 5) W ((W2.setCell ⟨b, x, none⟩ (.slice A k c)).setCell ⟨w.heap.size + 1 + 1, 0, none⟩ (.bool true)) := by
  obtain ⟨rq, h1, h2, h3⟩ := H.st
  have hz := H.b4.lt
  have ho : h.vr.ownBlock = some b := by rw [hv]; rfl
  have hW : ChH.W { h with X := fun k => h.X k ∨ (w.heap.size ≤ k ∧ k < w.heap.size + 5) } b := .inr (.inr ho)
  have hbw := h1.wlt hW
  have hbx : ¬ (w.heap.size ≤ b ∧ b < w.heap.size + 5) := by
    obtain ⟨_, _, cs, hbk⟩ := h1.rq.blk ho
    intro hh
    have e1 := hbk.ne_ H.b0 (by decide)
    have e2 := hbk.ne_ H.b1 (by decide)
    have e3 := hbk.ne_ H.b2 (by decide)
    have e4 := hbk.ne_ H.b3 (by decide)
    have e5 := hbk.ne_ H.b4 (by decide)
    omega
  have hg := h1.box
  have hgx : ¬ h.g = w.heap.size + 1 + 1 := hg.ne_ H.b2 (by decide)
  have hM := h1.below hb (Nat.le_refl _)
  have hM2 := hM.setR hv (i := x) (by show x < rq.length; omega) (hr.mono (fun i hi _ => h1.fresh hi))
  rw [hk] at hM2
  have hM3 : ChM ((W2.setCell ⟨b, x, none⟩ (.slice A k c)).setCell ⟨w.heap.size + 1 + 1, 0, none⟩ (.bool true)) B { h with X := fun k => h.X k ∨ (w.heap.size ≤ k ∧ k < w.heap.size + 5) } { s with rq := rq.set x (wo t (gl s.rq x)) } :=
    hM2.frX (fr_set _ _ 0 _) (fun k hk => by
      subst hk
      refine ⟨.inr ⟨by omega, by omega⟩, fun e => ?_, Ne.symm hgx⟩
      rcases e with e | e | e
      · obtain ⟨_, _, cs, hbk⟩ := h1.bf.blk e
        exact hbk.ne_ H.b2 (by decide) rfl
      · obtain ⟨_, _, cs, hbk⟩ := h1.sq.blk e
        exact hbk.ne_ H.b2 (by decide) rfl
      · obtain ⟨_, _, cs, hbk⟩ := h1.rq.blk e
        exact hbk.ne_ H.b2 (by decide) rfl)
  have far : ∀ {g : Nat} {T : TypeId} {cs : Array Value}, Blk W g T cs → g ≠ b → g ≠ w.heap.size + 1 + 1 → Blk ((W2.setCell ⟨b, x, none⟩ (.slice A k c)).setCell ⟨w.heap.size + 1 + 1, 0, none⟩ (.bool true)) g T cs := fun h1 h2 h3 =>
    ((h1.below hb h1.lt).far h2 _).far h3 _
  refine ⟨⟨far H.b0 (by omega) (by omega), far H.b1 (by omega) (by omega), ?_, far H.b3 (by omega) (by omega), far H.b4 (by omega) (by omega), ⟨_, hM3, by simpa using h2, fun k => ?_⟩, ?_⟩, ?_⟩
  · have := ((H.b2.below hb (by omega)).far (p := ⟨b, x, none⟩) (by show w.heap.size + 1 + 1 ≠ b; omega) (.slice A k c)).set_ 0 (.bool true)
    have e : (!(pre ++ [x]).isEmpty) = true := by simp
    rw [e]
    exact this
  · by_cases hxk : x = k
    · subst hxk
      rw [gl_set (by omega), if_pos (by simp)]
    · rw [gl_set_ne hxk, h3 k]
      by_cases hkp : k ∈ pre
      · rw [if_pos hkp, if_pos (by simp [hkp])]
      · rw [if_neg hkp, if_neg (by simp [hkp]; exact fun e => hxk e.symm)]
  · have hz2 := H.fr.size
    have f1 : Fr h.W w W2 := H.fr.trans (Fr.of_below hb) (fun i hi e => by omega)
    have f2 := f1.setCell (p := ⟨b, x, none⟩) (.inl (.inr (.inr ho))) (.slice A k c)
    exact f2.setCell (p := ⟨w.heap.size + 1 + 1, 0, none⟩) (.inr (by show w.heap.size ≤ w.heap.size + 1 + 1; omega)) _
  · have k1 : KeepsFrom (w.heap.size + 5) W W2 := ⟨hb.size, fun k o _ hk _ => ((Fr.of_below hb).block k (Array.getElem?_eq_some_iff.1 hk).1 (by have := (Array.getElem?_eq_some_iff.1 hk).1; omega)).trans hk⟩
    exact (k1.trans ((KeepsOthers.setCell _ _ _).from _)).trans ((KeepsOthers.setCell _ _ _).from _)
set_option maxHeartbeats 1000000 in
theorem clone_row (w : World) (D : Nat → Prop) (A : Option Addr) (c n : Nat) (l : List Int) (hr : RN w D A c l) (hn : l.length = n) (hn0 : 0 < n) (hK : n ≤ 1000000) :
    Calls Try.prog 40 #[.slice A n c] w fun e w' => ∃ b c', e = .returned (.slice (some ⟨b, 0, none⟩) n c') ∧ w.heap.size ≤ b ∧ (∃ cs : List Value, Blk w' b 3 cs.toArray ∧ cs.length = c' ∧ cs.take n = l.map EnI) ∧ n ≤ c' ∧ Below w.heap.size w w' := by
  obtain ⟨i0, hi0, hz0, hz1, hz2⟩ := info_parts info_int
  have hR := hr.reads
  obtain ⟨ad, rfl, _⟩ := hr.2 (by omega)
  rw [hn] at hR
  have HR := Lib.hid hR; have HL := Lib.hid hn
  have hnil := fun W => Go.Lib.run_eql_slice_nil (P := Try.prog) W 25 3 (some ad) n c 0 0 Try.underlying25
  clear hR hn hr
  go_enter Try.func40, Try.ntmps40
  have hown : (w.alloc (.cells #[] 3)).ownsRow w.heap.size 3 1 (.slice (some ⟨w.heap.size, 0, none⟩) 0 0) 0 [] := ⟨rfl, .inr ⟨w.heap.size, 0, #[], rfl, Nat.le_refl _, heap_alloc_new w _, Nat.le_refl _, by unfold maxLen; omega, rfl, rfl⟩⟩
  go_wp2_with (at_builtin; go_must (refine wpList_append_any _ rfl (.tmp 5) (.tmp 6) _ rfl w.heap.size 3 i0 _ 1 8 Try.underlying25 hi0 hz0 hz1 hz2 rfl (by decide) (.slice (some ⟨w.heap.size, 0, none⟩) 0 0) 0 [] rfl hown _ _ n c (l.map EnI) rfl (HR.out.alloc (Nat.le_refl _) _) ?f0 ?f1 ?f2 ?f3 ?f4))
  case f0 => intro u hu; obtain ⟨x, _, rfl⟩ := List.mem_map.1 hu; rfl
  case f1 => unfold maxLen; omega
  case f2 => omega
  case f3 => simp
  case f4 =>
  intro v5 w6 hown6 hgr hat
  have hbel : Below w.heap.size w w6 := ((Below.refl w.heap.size w).alloc (Nat.le_refl _) _).grown hgr (by simp) (fun r hr => by simp [Value.ownBlock] at hr; omega)
  have hown7 : w6.ownsRow w.heap.size 3 1 v5 n (l.map EnI) := by simpa using hown6
  obtain ⟨b, c', cs, rfl, h1, h2, h3, _, h5, h6, h7⟩ := own_form hown7 hn0
  have H1 := Lib.hid h5; have HB := Lib.hid hbel; have H7 := Lib.hid h7; have H6 := Lib.hid h6
  clear hown7 hbel hown6 hgr hat hown h5 h6 h7
  go_wp2_with fail
  go_ret
  exact ⟨_, _, rfl, h2, ⟨cs, H1.out, H6.out, H7.out⟩, h1, HB.out⟩
theorem seenV_mem {t : Int} {L : List (List Int)} {k i : Nat} : i ∈ seenV t L k ↔ i < k ∧ t ∈ gl L i := by
  unfold seenV
  rw [List.mem_filter, List.mem_range]
  simp
theorem seenV_any (t : Int) (L : List (List Int)) : (!(seenV t L L.length).isEmpty) = L.any fun l => l.contains t := by
  rw [Bool.eq_iff_iff]
  simp only [List.any_eq_true]
  constructor
  · intro h
    cases hs : seenV t L L.length with
    | nil => rw [hs] at h; simp at h
    | cons i r =>
      have hi : i ∈ seenV t L L.length := by rw [hs]; simp
      rw [seenV_mem] at hi
      exact ⟨_, gl_mem hi.1, by simpa using hi.2⟩
  · rintro ⟨l, hl, ht⟩
    obtain ⟨i, hi⟩ := List.mem_iff_getElem?.1 hl
    have hil : i < L.length := (List.getElem?_eq_some_iff.1 hi).1
    have hgl : gl L i = l := by
      have := gl_some hil
      rw [hi] at this
      exact (Option.some.inj this).symm
    have hm : i ∈ seenV t L L.length := seenV_mem.2 ⟨hil, by rw [hgl]; simpa using ht⟩
    cases hs : seenV t L L.length with
    | nil => rw [hs] at hm; simp at hm
    | cons _ _ => rfl
theorem rows_done {t : Int} {L rq : List (List Int)} (hl : rq.length = L.length) (h : ∀ k, gl rq k = if k ∈ seenV t L L.length then wo t (gl L k) else gl L k) : rq = L.map (wo t) := by
  apply List.ext_getElem?
  intro k
  rcases Nat.lt_or_ge k L.length with hk | hk
  · rw [gl_some (by omega), List.getElem?_map, gl_some hk, h k]
    by_cases ht : t ∈ gl L k
    · rw [if_pos (seenV_mem.2 ⟨hk, ht⟩)]
      rfl
    · rw [if_neg (fun e => ht (seenV_mem.1 e).2), Option.map_some, wo_not ht]
  · rw [List.getElem?_eq_none (by omega), List.getElem?_eq_none (by simpa using hk)]
theorem CanI.needs {w W : World} {B : Nat} {h : ChH} {s : Ck} {t : Int} {pre : List Nat} (H : CanI w B h s t pre W) {n b cap : Nat} (hn : s.rq.length = n) (hv : h.vr = .slice (some ⟨b, 0, none⟩) s.rq.length cap) : WaitN W (w.heap.size + 1 + 1 + 1) (w.heap.size + 1 + 1 + 1 + 1) h.g b n cap t s.rq pre := by
  obtain ⟨rq, h1, h2, h3⟩ := H.st
  refine ⟨(H.b3.cell 0).trans rfl, (H.b4.cell 0).trans rfl, ?_, fun k hk hkp => ?_⟩
  · have := h1.cells.2.2
    rw [← hn, ← hv]
    exact this
  · obtain ⟨b', cap', A, c, f1, f2, f3, f4, f5, f6, f7⟩ := h1.rq.at_ (i := k) (by show k < rq.length; omega)
    have hb : b' = b := by
      rw [hv] at f1
      injection f1 with f1 _ _
      injection f1 with f1
      injection f1 with f1
      exact f1.symm
    subst hb
    have hk3 := h3 k
    rw [if_neg hkp] at hk3
    simp only at f5 f7
    rw [hk3] at f5 f7
    exact ⟨A, c, f5, f7.mono (fun _ _ _ => trivial)⟩
set_option maxRecDepth 100000 in
set_option maxHeartbeats 8000000 in
theorem cancel_any (w : World) (B : Nat) (h : ChH) (s : Ck) (H : ChM w B h s) (K n : Nat) (O : CkOk K n s) (hn0 : 0 < n) (hK : K ≤ 1000000) (hN : n ≤ 1000000) (t : Int) :
    Calls Try.prog 24 #[.pointer (some ⟨h.g, 0, none⟩), .int .i64 t] w fun e w' => e = .returned (.bool (didV s t)) ∧ ChT w w' B h (cancelV s t) := by
  refine (callsIn_wide (n := 3)).1 ?_
  refine callsIn_of_wp_marks Try.func24 rfl trivial ?_ rfl
  simp only [Try.ntmps24, List.size_toArray, List.length_cons, List.length_nil, Nat.reduceAdd, Nat.reduceSub, Array.replicate_succ, Array.replicate_zero, List.push_toArray, List.append_toArray, List.nil_append, List.cons_append]
  obtain ⟨b, cap, A0, c0, e1, e2, e3, e4, e5, e6, e7⟩ := H.rq.at_ (i := 0) (by rw [O.l3]; exact hn0)
  have HH := Lib.hid H; have HO := Lib.hid O
  clear H O e5 e6 e7
  gi_wp2_with fail
  refine ⟨trivial, (callsIn_wide.2 (waitsAt_any _ h.g t)).mono ?_⟩
  rintro e w1 ⟨rfl, rfl⟩
  gi_wp2_with fail
  have hI0 : CanI w B h s t [] (((((w.alloc (.cells #[.pointer (some ⟨h.g, 0, none⟩)] 33)).alloc (.cells #[.int .i64 t] 3)).alloc (.cells #[.bool false] 4)).alloc (.cells #[.pointer (some ⟨h.g, 0, none⟩)] 33)).alloc (.cells #[.int .i64 t] 3)) := by
    have hb : Below w.heap.size w (((((w.alloc (.cells #[.pointer (some ⟨h.g, 0, none⟩)] 33)).alloc (.cells #[.int .i64 t] 3)).alloc (.cells #[.bool false] 4)).alloc (.cells #[.pointer (some ⟨h.g, 0, none⟩)] 33)).alloc (.cells #[.int .i64 t] 3)) :=
      (((((Below.refl _ w).alloc (Nat.le_refl _) _).alloc (by simp) _).alloc (by simp; omega) _).alloc (by simp; omega) _).alloc (by simp; omega) _
    have d0 := ((((Blk.new w 33 #[.pointer (some ⟨h.g, 0, none⟩)]).alloc (.cells #[.int .i64 t] 3)).alloc (.cells #[.bool false] 4)).alloc (.cells #[.pointer (some ⟨h.g, 0, none⟩)] 33)).alloc (.cells #[.int .i64 t] 3)
    have d1 := (((Blk.new (w.alloc (.cells #[.pointer (some ⟨h.g, 0, none⟩)] 33)) 3 #[.int .i64 t]).alloc (.cells #[.bool false] 4)).alloc (.cells #[.pointer (some ⟨h.g, 0, none⟩)] 33)).alloc (.cells #[.int .i64 t] 3)
    have d2 := ((Blk.new ((w.alloc (.cells #[.pointer (some ⟨h.g, 0, none⟩)] 33)).alloc (.cells #[.int .i64 t] 3)) 4 #[.bool false]).alloc (.cells #[.pointer (some ⟨h.g, 0, none⟩)] 33)).alloc (.cells #[.int .i64 t] 3)
    have d3 := (Blk.new (((w.alloc (.cells #[.pointer (some ⟨h.g, 0, none⟩)] 33)).alloc (.cells #[.int .i64 t] 3)).alloc (.cells #[.bool false] 4)) 33 #[.pointer (some ⟨h.g, 0, none⟩)]).alloc (.cells #[.int .i64 t] 3)
    have d4 := Blk.new ((((w.alloc (.cells #[.pointer (some ⟨h.g, 0, none⟩)] 33)).alloc (.cells #[.int .i64 t] 3)).alloc (.cells #[.bool false] 4)).alloc (.cells #[.pointer (some ⟨h.g, 0, none⟩)] 33)) 3 #[.int .i64 t]
    simp only [World.size_alloc] at d1 d2 d3 d4
    exact ⟨d0, d1, d2, d3, d4, ⟨s.rq, HH.out.addX hb (fun k hk => by simp; omega), rfl, fun k => by simp⟩, Fr.of_below hb |>.mono (fun i hi e => by omega)⟩
  have hVs : (((((w.alloc (.cells #[.pointer (some ⟨h.g, 0, none⟩)] 33)).alloc (.cells #[.int .i64 t] 3)).alloc (.cells #[.bool false] 4)).alloc (.cells #[.pointer (some ⟨h.g, 0, none⟩)] 33)).alloc (.cells #[.int .i64 t] 3)).heap.size = w.heap.size + 5 := by simp
  generalize (((((w.alloc (.cells #[.pointer (some ⟨h.g, 0, none⟩)] 33)).alloc (.cells #[.int .i64 t] 3)).alloc (.cells #[.bool false] 4)).alloc (.cells #[.pointer (some ⟨h.g, 0, none⟩)] 33)).alloc (.cells #[.int .i64 t] 3)) = V at hI0 hVs ⊢
  have hl3 := HO.out.l3
  have hrow := fun k => HO.out.row k
  refine range_told (n := 3) (by omega) (gf := 48) (lb := #[.pointer (some ⟨w.heap.size + 1 + 1 + 1, 0, none⟩), .pointer (some ⟨w.heap.size + 1 + 1 + 1 + 1, 0, none⟩)]) rfl (enters_of Try.func48 (by kernel_rfl) rfl) (fun x : Nat => #[.int .i64 (x : Int)]) (fun _ => rfl)
    (CanI w B h s t) (fun pre W k o o' hI hk ho hc => hI.put (NoCells.put o' ho hc) (putObj_fr W k o' (by omega))) (fun pre W o hI => hI.put (NoCells.alloc W o) (alloc_fr W o)) hI0
    (fun x => { tmps := #[.pointer (some ⟨h.g, 0, none⟩), .int .i64 t, .pointer (some ⟨w.heap.size, 0, none⟩), .pointer (some ⟨w.heap.size + 1, 0, none⟩), .bool false, .pointer (some ⟨w.heap.size + 1 + 1, 0, none⟩), .int .i64 (x : Int), .pointer (some ⟨h.g, 0, none⟩), .int .i64 t, .func (.func 48) #[] #[.pointer (some ⟨w.heap.size + 1 + 1 + 1, 0, none⟩), .pointer (some ⟨w.heap.size + 1 + 1 + 1 + 1, 0, none⟩)], .int .i64 (x : Int), undef, undef, undef, undef, undef, undef, undef, undef, undef, undef, undef, undef, undef, undef, undef, undef, undef], defers := [] }) ?assign
    (fun xs => xs = seenV t s.rq n) (fun pre x => x < n ∧ t ∈ gl s.rq x ∧ pre = seenV t s.rq x) ?hit ?body ?done
  case assign =>
    intro lq x W K hK
    gi_wp2
    exact hK
  case hit =>
    intro lq J W hJI hJ0 hY
    refine (waits_in 2 (by omega) lq _ _ h.g b n cap t s.rq hN (fun k => by have := hrow k; omega) J (fun pre W hJ => (hJI pre W hJ).needs hl3 e1) (fun pre x W hJ hv => hY pre x W hJ hv) W hJ0).mono ?_
    rintro e W' ⟨h1, h2⟩
    exact ⟨h1, _, rfl, h2⟩
  case body =>
    rintro lq pre x W hI ⟨hx, hmem, hpre⟩
    obtain ⟨rq, h1, h2, h3⟩ := hI.st
    obtain ⟨b', cap', A, c, f1, f2, f3, f4, f5, f6, f7⟩ := h1.rq.at_ (i := x) (by show x < rq.length; omega)
    have hb : b' = b := by
      rw [e1] at f1
      injection f1 with f1 _ _
      injection f1 with f1
      injection f1 with f1
      exact f1.symm
    subst hb
    have hxp : x ∉ pre := by rw [hpre]; intro e; have := seenV_lt e; omega
    have hk3 := h3 x
    rw [if_neg hxp] at hk3
    simp only at f5 f7
    rw [hk3] at f5 f7
    have hrowx := hrow x
    have hm0 : 0 < (gl s.rq x).length := List.length_pos_of_mem hmem
    have hnext := fun W2 (hb : Below W.heap.size W W2) A k c (hr : RN W2 (fun i => W.heap.size ≤ i) A c (wo t (gl s.rq x))) hk => hI.next (by omega) hb (A := A) (k := k) (c := c) hr hk e1
    have hcl : ∀ W2, Below W.heap.size W W2 → Calls Try.prog 40 #[.slice A (gl s.rq x).length c] W2 fun e w' => ∃ b2 c2, e = .returned (.slice (some ⟨b2, 0, none⟩) (gl s.rq x).length c2) ∧ W.heap.size ≤ b2 ∧
        (∃ cs : List Value, Blk w' b2 3 cs.toArray ∧ cs.length = c2 ∧ cs.take (gl s.rq x).length = (gl s.rq x).map EnI) ∧ (gl s.rq x).length ≤ c2 ∧ Below W.heap.size W w' := by
      intro W2 hb
      refine (clone_row W2 _ A c (gl s.rq x).length (gl s.rq x) (f7.below hb (Nat.le_refl _)) rfl hm0 (by omega)).mono ?_
      rintro e w' ⟨b2, c2, rfl, g1, g2, g3, g4⟩
      have := hb.size
      exact ⟨b2, c2, rfl, by omega, g2, g3, hb.trans (g4.mono this)⟩
    have x0 : W.cell? ⟨w.heap.size, 0, none⟩ = some (.pointer (some ⟨h.g, 0, none⟩)) := (hI.b0.cell 0).trans rfl
    have x9 : W.cell? ⟨h.g, 9, none⟩ = some (.slice (some ⟨b', 0, none⟩) n cap) := by
      have := h1.cells.2.2
      rw [← hl3, ← e1]
      exact this
    have hz := hI.b4.lt
    have hgl := h1.box.lt
    have hkeep : ∀ W2, Below W.heap.size W W2 → W2.cell? ⟨w.heap.size, 0, none⟩ = some (.pointer (some ⟨h.g, 0, none⟩)) ∧ W2.cell? ⟨h.g, 9, none⟩ = some (.slice (some ⟨b', 0, none⟩) n cap) ∧ W2.cell? ⟨b', x, none⟩ = some (.slice A (gl s.rq x).length c) ∧ W2.frozen? ⟨b', x, none⟩ = false ∧ W2.cell? ⟨w.heap.size + 1 + 1, 0, none⟩ = some (.bool (!pre.isEmpty)) ∧ W2.frozen? ⟨w.heap.size + 1 + 1, 0, none⟩ = false := fun W2 hb =>
      ⟨(hb.cell (p := ⟨w.heap.size, 0, none⟩) (by show w.heap.size < W.heap.size; omega)).trans x0, (hb.cell (p := ⟨h.g, 9, none⟩) hgl).trans x9, (hb.cell (p := ⟨b', x, none⟩) f3).trans f5, (hb.frozen (p := ⟨b', x, none⟩) f3).trans (f6 x), (hb.cell (p := ⟨w.heap.size + 1 + 1, 0, none⟩) (by show w.heap.size + 1 + 1 < W.heap.size; omega)).trans ((hI.b2.cell 0).trans rfl), (hb.frozen (p := ⟨w.heap.size + 1 + 1, 0, none⟩) (by show w.heap.size + 1 + 1 < W.heap.size; omega)).trans (hI.b2.frozen 0)⟩
    have hdf : ∀ W2, Below W.heap.size W W2 → ∀ b2 c2, W.heap.size ≤ b2 → (∃ cs : List Value, Blk W2 b2 3 cs.toArray ∧ cs.length = c2 ∧ cs.take (gl s.rq x).length = (gl s.rq x).map EnI) → (gl s.rq x).length ≤ c2 →
        Calls Try.prog 39 #[.slice (some ⟨b2, 0, none⟩) (gl s.rq x).length c2, .func (.func 41) #[] #[.pointer (some ⟨w.heap.size + 1, 0, none⟩)]] W2 fun e w' =>
          ∃ k A' c', e = .returned (.slice A' k c') ∧ (wo t (gl s.rq x)).length = k ∧ RN w' (fun i => W.heap.size ≤ i) A' c' (wo t (gl s.rq x)) ∧ Below W.heap.size W w' := by
      rintro W2 hb b2 c2 hb2 ⟨cs, g1, g2, g3⟩ hc2
      refine (delFunc_any W2 b2 (w.heap.size + 1) _ c2 t (gl s.rq x) cs g1 g2 g3 rfl hc2 (by omega) (hI.b1.below hb (by omega)) (by omega) hmem).mono ?_
      rintro e w' ⟨k, A', c', rfl, hk, hr, hf⟩
      exact ⟨k, A', c', rfl, hk, hr.mono (fun i hi _ => by omega), hb.trans (hf.below hb.size (fun i hi => by omega))⟩
    have hbx : ¬ b' = w.heap.size + 1 + 1 := by
      obtain ⟨_, _, cs, hbk⟩ := h1.rq.blk f4
      exact hbk.ne_ hI.b2 (by decide)
    have hgb : ¬ h.g = b' := Ne.symm (h1.wlt (.inr (.inr f4))).2.2
    have hbx0 : ¬ b' = w.heap.size := by
      obtain ⟨_, _, cs, hbk⟩ := h1.rq.blk f4
      exact hbk.ne_ hI.b0 (by decide)
    have HBX0 := Lib.hid hbx0
    have hbn : ¬ w.heap.size + 1 + 1 = b' := fun e => hbx e.symm
    obtain ⟨y0, y1, y2, y3, y4, y5⟩ := hkeep W.drew (below_drews (Below.refl _ _) 1)
    have HNX := Lib.hid hnext; have HCL := Lib.hid hcl; have HKP := Lib.hid hkeep; have HDF := Lib.hid hdf
    have hbd : Below W.heap.size W W.drew := below_drews (Below.refl _ _) 1
    have hfn : ∀ f, Fence.wide.fn f := fun _ => trivial
    have hmix : Try.prog.follows .mixedOrders = true := by kernel_rfl
    clear hI h1 h2 h3 f1 f2 f4 f5 f6 f7 hnext hcl hkeep hdf x0 x9 hI0 hrow hrowx hk3 hxp hmem hpre e1 e4 hgl
    generalize (gl s.rq x).length = m at *
    generalize h.g = g at *
    have q1 : (x : Int) < (n : Int) := by omega
    have q0 : (0 : Int) ≤ (x : Int) := by omega
    gi_wp2_with fail
    have hSc : ∀ W2, Below W.heap.size W W2 → W2.cell? ⟨w.heap.size, 0, none⟩ = some (.pointer (some ⟨g, 0, none⟩)) ∧ W2.cell? ⟨g, 9, none⟩ = some (.slice (some ⟨b', 0, none⟩) n cap) := fun W2 hb => ⟨(HKP.out W2 hb).1, (HKP.out W2 hb).2.1⟩
    refine held_round (S := fun w' => w'.cell? ⟨w.heap.size, 0, none⟩ = some (.pointer (some ⟨g, 0, none⟩)) ∧ w'.cell? ⟨g, 9, none⟩ = some (.slice (some ⟨b', 0, none⟩) n cap)) hmix (by kernel_rfl) (hSc _ hbd) (fun hHeld => ?_)
    refine wpAnyH_take (i := 0) (v := ?v0) rfl (by kernel_rfl) (by kernel_rfl) (by kernel_rfl) (fun _ _ _ h => Exit.noConfusion h.1) (Or.inl ⟨by rfl, ?hy0⟩) (by assumption) ?rest0
    case hy0 => (intro w hSw; (try dsimp only at hSw); go_simp; try (with_reducible rfl))
    try simp only [Act.put, List.setIfInBounds_toArray, List.set_cons_zero, List.set_cons_succ]
    refine wpAnyH_take (i := 1) (v := ?v1) rfl (by kernel_rfl) (by kernel_rfl) (by kernel_rfl) (fun _ _ _ h => Exit.noConfusion h.1) (Or.inl ⟨by rfl, ?hy1⟩) (by assumption) ?rest1
    case hy1 => (intro w hSw; (try dsimp only at hSw); go_simp; try (with_reducible rfl))
    try simp only [Act.put, List.setIfInBounds_toArray, List.set_cons_zero, List.set_cons_succ]
    refine wpAnyH_take (i := 2) (v := ?v2) rfl (by kernel_rfl) (by kernel_rfl) (by kernel_rfl) (fun _ _ _ h => Exit.noConfusion h.1) (Or.inl ⟨by rfl, ?hy2⟩) (by assumption) ?rest2
    case hy2 => (intro w hSw; (try dsimp only at hSw); go_simp; try (with_reducible rfl))
    try simp only [Act.put, List.setIfInBounds_toArray, List.set_cons_zero, List.set_cons_succ]
    refine wpAnyH_take (i := 3) (v := ?v3) rfl (by kernel_rfl) (by kernel_rfl) (by kernel_rfl) (fun _ _ _ h => Exit.noConfusion h.1) (Or.inl ⟨by rfl, ?hy3⟩) (by assumption) ?rest3
    case hy3 => (intro w hSw; (try dsimp only at hSw); go_simp; try (with_reducible rfl))
    try simp only [Act.put, List.setIfInBounds_toArray, List.set_cons_zero, List.set_cons_succ]
    refine wpAnyH_take (i := 4) (v := ?v4) rfl (by kernel_rfl) (by kernel_rfl) (by kernel_rfl) (fun _ _ _ h => Exit.noConfusion h.1) (Or.inl ⟨by rfl, ?hy4⟩) (by assumption) ?rest4
    case hy4 => (intro w hSw; (try dsimp only at hSw); go_simp; try (with_reducible rfl))
    try simp only [Act.put, List.setIfInBounds_toArray, List.set_cons_zero, List.set_cons_succ]
    refine wpAnyH_take (i := 5) (v := ?v5) rfl (by kernel_rfl) (by kernel_rfl) (by kernel_rfl) (fun _ _ _ h => Exit.noConfusion h.1) (Or.inl ⟨by rfl, ?hy5⟩) (by assumption) ?rest5
    case hy5 => (intro w hSw; (try dsimp only at hSw); go_simp; try (with_reducible rfl))
    try simp only [Act.put, List.setIfInBounds_toArray, List.set_cons_zero, List.set_cons_succ]
    refine wpAnyH_take (i := 6) (v := ?v6) rfl (by kernel_rfl) (by kernel_rfl) (by kernel_rfl) (fun _ _ _ h => Exit.noConfusion h.1) (Or.inl ⟨by rfl, ?hy6⟩) (by assumption) ?rest6
    case hy6 => (intro w hSw; (try dsimp only at hSw); go_simp; try (with_reducible rfl))
    try simp only [Act.put, List.setIfInBounds_toArray, List.set_cons_zero, List.set_cons_succ]
    refine wpAnyH_take (i := 7) (v := ?v7) rfl (by kernel_rfl) (by kernel_rfl) (by kernel_rfl) (fun _ _ _ h => Exit.noConfusion h.1) (Or.inl ⟨by rfl, ?hy7⟩) (by assumption) ?rest7
    case hy7 => (intro w hSw; (try dsimp only at hSw); go_simp; try (with_reducible rfl))
    try simp only [Act.put, List.setIfInBounds_toArray, List.set_cons_zero, List.set_cons_succ]
    refine wpAnyH_take (i := 8) (v := ?v8) rfl (by kernel_rfl) (by kernel_rfl) (by kernel_rfl) (fun _ _ _ h => Exit.noConfusion h.1) (Or.inl ⟨by rfl, ?hy8⟩) (by assumption) ?rest8
    case hy8 => (intro w hSw; (try dsimp only at hSw); go_simp; try (with_reducible rfl))
    try simp only [Act.put, List.setIfInBounds_toArray, List.set_cons_zero, List.set_cons_succ]
    refine wpAnyH_take (i := 9) (v := ?v9) rfl (by kernel_rfl) (by kernel_rfl) (by kernel_rfl) (fun _ _ _ h => Exit.noConfusion h.1) (Or.inl ⟨by rfl, ?hy9⟩) (by assumption) ?rest9
    case hy9 => (intro w hSw; (try dsimp only at hSw); go_simp; try (with_reducible rfl))
    try simp only [Act.put, List.setIfInBounds_toArray, List.set_cons_zero, List.set_cons_succ]
    refine wpAnyH_take (i := 10) (v := ?v10) rfl (by kernel_rfl) (by kernel_rfl) (by kernel_rfl) (fun _ _ _ h => Exit.noConfusion h.1) (Or.inl ⟨by rfl, ?hy10⟩) (by assumption) ?rest10
    case hy10 => (intro w hSw; (try dsimp only at hSw); go_simp; try (with_reducible rfl))
    try simp only [Act.put, List.setIfInBounds_toArray, List.set_cons_zero, List.set_cons_succ]
    refine wpAnyH_take (i := 13) (v := ?v13) rfl (by kernel_rfl) (by kernel_rfl) (by kernel_rfl) (fun _ _ _ h => Exit.noConfusion h.1) (Or.inl ⟨by rfl, ?hy13⟩) (by assumption) ?rest13
    case hy13 => (intro w hSw; (try dsimp only at hSw); go_simp; try (with_reducible rfl))
    try simp only [Act.put, List.setIfInBounds_toArray, List.set_cons_zero, List.set_cons_succ]
    refine wpAnyH_ready (rs := [11]) (by kernel_rfl) (by simp) ?_
    refine AllReadyH.cons rfl (fun K hK => ?_) AllReadyH.nil
    go_simp
    refine hK.out _ _ ?_ (fun hHeld => ?_)
    · exact hSc _ hbd
    clear hK K
    try simp only [Act.put, List.setIfInBounds_toArray, List.set_cons_zero, List.set_cons_succ]
    refine wpAnyH_ready (rs := [12]) (by kernel_rfl) (by simp) ?_
    refine AllReadyH.cons rfl (fun K hK => ?_) AllReadyH.nil
    go_simp
    refine (HCL.out _ hbd).mono ?_
    rintro e w1 ⟨b2, c2, rfl, g1, g2, g3, hb1⟩
    try go_simp
    refine hK.out _ _ ?_ (fun hHeld => ?_)
    · exact hSc _ hb1
    clear hK K
    try simp only [Act.put, List.setIfInBounds_toArray, List.set_cons_zero, List.set_cons_succ]
    refine wpAnyH_ready (rs := [14]) (by kernel_rfl) (by simp) ?_
    refine AllReadyH.cons rfl (fun K hK => ?_) AllReadyH.nil
    go_simp
    refine (HDF.out _ hb1 _ _ g1 g2 g3).mono ?_
    rintro e w2 ⟨k2, A2, c3, rfl, hk2, hr2, hb2⟩
    try go_simp
    refine hK.out _ _ ?_ (fun hHeld => ?_)
    · exact hSc _ hb2
    clear hK K
    try simp only [Act.put, List.setIfInBounds_toArray, List.set_cons_zero, List.set_cons_succ]
    obtain ⟨v0, v1, v2, v3, v4, v5⟩ := HKP.out _ hb2
    have HR2 := Lib.hid hr2; have HB2 := Lib.hid hb2; have HK2 := Lib.hid hk2
    clear hr2 hb2 hk2
    refine wpAnyH_take (i := 15) (v := ?v15) rfl (by kernel_rfl) (by kernel_rfl) (by kernel_rfl) (fun _ _ _ h => Exit.noConfusion h.1) (Or.inl ⟨by rfl, ?hy15⟩) (by assumption) ?rest15
    case hy15 => (intro w hSw; (try dsimp only at hSw); go_simp; try (with_reducible rfl))
    try simp only [Act.put, List.setIfInBounds_toArray, List.set_cons_zero, List.set_cons_succ]
    refine wpAnyH_ready (rs := [16]) (by kernel_rfl) (by simp) ?_
    refine AllReadyH.cons rfl (fun K hK => ?_) AllReadyH.nil
    go_simp
    refine hK.out _ _ ?_ (fun hHeld => ?_)
    · exact ⟨(World.cell?_setCell_far _ _ _ _ (by show b' ≠ w.heap.size; have := HBX0.out; omega)).trans v0, (World.cell?_setCell_far _ _ _ _ (by show b' ≠ g; exact fun e => hgb e.symm)).trans v1⟩
    clear hK K
    refine wpAnyH_done (by kernel_rfl) ?_ _
    refine ⟨rfl, ?_⟩
    have u4 : (w2.setCell ⟨b', x, none⟩ (.slice A2 k2 c3)).cell? ⟨w.heap.size + 1 + 1, 0, none⟩ = some (.bool (!pre.isEmpty)) := (World.cell?_setCell_far _ _ _ _ hbx).trans v4
    have u5 : (w2.setCell ⟨b', x, none⟩ (.slice A2 k2 c3)).frozen? ⟨w.heap.size + 1 + 1, 0, none⟩ = false := by rw [World.frozen?_setCell]; exact v5
    have hfin := HNX.out w2 HB2.out A2 k2 c3 HR2.out HK2.out
    have HFIN := Lib.hid hfin
    clear hfin HR2 HB2 HK2 HNX HCL HDF HKP hSc
    gi_wp2
    exact ⟨HFIN.out.2, HFIN.out.1⟩
  case done =>
    rintro D xs W hD rfl hI hK
    have hdid := seenV_any t s.rq
    rw [hl3] at hdid
    obtain ⟨rq, h1, h2, h3⟩ := hI.st
    rw [← hl3] at h3
    have hrq := rows_done h2 h3
    subst hrq
    have x5 : W.cell? ⟨w.heap.size + 1 + 1, 0, none⟩ = some (.bool (didV s t)) := by
      rw [hI.b2.cell]
      unfold didV
      rw [← hdid]
      rfl
    have hfr := hI.fr
    have hdrop := h1.dropX (X' := h.X) (fun k hk => .inl hk)
    have HD := Lib.hid hdrop; have HF := Lib.hid hfr; have HK := Lib.hid hK
    clear h1 h2 h3 hI hfr hdrop hdid hI0
    gi_wp2
    refine ⟨by simp, .inl ⟨_, _, rfl, run_takeDeferred HK.out, ?_⟩⟩
    exact ⟨_, results_tmp rfl _ _ _, rfl, HD.out.noCells (NoCells.put _ HK.out rfl), HF.out.trans (putObj_fr (w := w) W D _ (by omega)) (fun i hi e => by omega)⟩
end Go.Proofs.Ytbgigkamlnchcaa
