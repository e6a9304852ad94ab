
/-
  A queue's Put: a ring more behind the others.
-/
import Derived.Test.YtipflplilkecjaaDqR
set_option linter.unusedVariables false
set_option linter.unusedSimpArgs false
namespace Go.Proofs.Ytipflplilkecjaa
open Go.RowKit Plain

theorem info_rp : (Try.prog.info? 77).map (fun i => (i.zero, i.size, i.bytes)) = some (some (.pointer none), 1, 8) := by kernel_rfl
abbrev PtrQ (r : QRec) : Value := .pointer (some ⟨r.g, 0, none⟩)
theorem qrow_own {w : World} {D : Nat → Prop} {base n : Nat} {v : Value} {rs : List QRec} (h : w.ownsRow base 77 1 v n (rs.map PtrQ)) (hD : ∀ i, base ≤ i → i < w.heap.size → D i) (hn : 1 ≤ n) (hl : rs.length = n) : ∃ A c, v = .slice A n c ∧ QRow w D A c rs := by
  rcases h.2 with ⟨_, h0⟩ | ⟨g', cap, cur, rfl, hb, hh, hnc, hcm, hcs, ht⟩
  · omega
  · refine ⟨_, _, rfl, .inr ⟨g', 0, cur.toList, rfl, by omega, by omega, by unfold maxLen at hcm; omega, by simpa [Blk] using hh, by simp; omega, hD _ hb (h.lt g' rfl).2, fun i r hi => ?_⟩⟩
    have hil := (List.getElem?_eq_some_iff.1 hi).1
    rw [Nat.zero_add]
    have : (cur.toList.take (n * 1))[i]? = (rs.map PtrQ)[i]? := by rw [ht]
    rw [List.getElem?_take_of_lt (by omega)] at this
    rw [this, List.getElem?_map, hi]
    rfl
section
variable {w : World} {D : Nat → Prop} {A : Option Addr} {c : Nat} {rs : List QRec}
theorem run_append_q (ty : TypeId) (hq : QRow w D A c rs) (hn : rs.length ≤ 1000000) (r : QRec) (ad : Addr) (cc : Nat) (hc : w.cell? ad = some (PtrQ r)) :
    ∃ A' c' w', (Builtin.append_ #[54, 54] ty #[.slice A rs.length c, .slice (some ad) 1 cc]).run Try.prog w = .ok (.slice A' (rs.length + 1) c') w' ∧ QRow w' (fun i => D i ∨ (w.heap.size ≤ i ∧ i < w'.heap.size)) A' c' (rs ++ [r]) ∧ Fr (fun i => D i ∧ ∃ cs, Blk w i 77 cs) w w' := by
  obtain ⟨i0, hi0, hz0, hz1, hz2⟩ := info_parts info_rp
  have hone : ∀ j u, ([PtrQ r] : List Value)[j]? = some u → w.cell? (ad.add j) = some u := by
    intro j u hj
    match j, hj with
    | 0, hj => simp at hj; subst hj; simpa [Addr.add] using hc
  rcases hq with ⟨h1, h2, h3⟩ | ⟨b, o, cs, rfl, h2, h3, h0, h4, h5, h6, h7⟩
  · subst h1 h2 h3
    obtain ⟨v', w', hrun, hown, hgr, _⟩ := run_append_own (P := Try.prog) w w.heap.size 54 ty 77 i0 _ 1 8 Try.underlying54 hi0 hz0 hz1 hz2 rfl (by decide) (.slice none 0 0) 0 [] (World.ownsRow_nil w _ _ 1) ad 1 cc [PtrQ r] (by simp) hone (by simp [Value.oneCell']) (by unfold maxLen; omega) (by omega) (Nat.le_refl _)
    have hown2 : w'.ownsRow w.heap.size 77 1 v' 1 (([] ++ [r]).map PtrQ) := by simpa using hown
    obtain ⟨A', c', rfl, hq'⟩ := qrow_own (D := fun i => D i ∨ (w.heap.size ≤ i ∧ i < w'.heap.size)) hown2 (fun i h1 h2 => .inr ⟨h1, h2⟩) (Nat.le_refl _) (by simp)
    exact ⟨A', c', w', hrun, hq', (Fr.of_grown hgr).mono (fun i _ h => by simp [Value.ownBlock] at h)⟩
  · by_cases hr : rs.length + 1 ≤ c
    · have hcs : o + rs.length < cs.length := by omega
      have hrun := run_append_room_cells (P := Try.prog) w 54 ty 77 i0 Try.underlying54 hi0 b o rs.length c ad 1 cc [PtrQ r] (by simp [hz1]) hone (by simp [Value.oneCell']) hr
        (by intro j hj; simp at hj; subst hj; rw [hz1, h4.cell]; simp; omega) (by intro j hj; exact h4.frozen _)
      simp [World.setCells, hz1] at hrun
      have hb := h4.set_ (o + rs.length) (PtrQ r)
      refine ⟨_, _, _, hrun, .inr ⟨b, o, cs.set (o + rs.length) (PtrQ r), rfl, by simp; omega, h3, h0, by simpa using hb, by simp; omega, .inl h6, fun i x hi => ?_⟩, (Fr.refl _ w).setCell (p := ⟨b, o + rs.length, none⟩) (.inl ⟨h6, _, h4⟩) _⟩
      rcases Nat.lt_or_ge i rs.length with hlt | hge
      · rw [List.getElem?_append_left hlt] at hi
        rw [List.getElem?_set_ne (by omega)]
        exact h7 i x hi
      · rw [List.getElem?_append_right hge] at hi
        have hil : i = rs.length := by
          have := (List.getElem?_eq_some_iff.1 hi).1
          simp at this
          omega
        subst hil
        simp at hi
        subst hi
        exact List.getElem?_set_self hcs
    · have holds : ∀ j u, (rs.map PtrQ)[j]? = some u → w.cell? ((⟨b, o, none⟩ : Addr).add j) = some u := by
        intro j u hj
        rw [List.getElem?_map] at hj
        obtain ⟨x, hx, rfl⟩ := Option.map_eq_some_iff.1 hj
        rw [Addr.add_lit, h4.cell]
        simpa using h7 j x hx
      obtain ⟨v', w', hrun, hown, hgr⟩ := run_append_arg_grows (P := Try.prog) w 54 ty 77 i0 _ 1 8 Try.underlying54 hi0 hz0 hz1 hz2 rfl (by decide) ⟨b, o, none⟩ rs.length c (rs.map PtrQ) (by simp) holds ad 1 cc [PtrQ r] (by simp) hone (by omega) (by unfold maxLen; omega) (by omega)
      have hown2 : w'.ownsRow w.heap.size 77 1 v' (rs.length + 1) ((rs ++ [r]).map PtrQ) := by simpa using hown
      obtain ⟨A', c', rfl, hq'⟩ := qrow_own (D := fun i => D i ∨ (w.heap.size ≤ i ∧ i < w'.heap.size)) hown2 (fun i h1 h2 => .inr ⟨h1, h2⟩) (by omega) (by simp)
      exact ⟨A', c', w', hrun, hq', (Fr.of_grown hgr).mono (fun i _ h => by simp at h)⟩
theorem step_append_q {ops : Array Oper} {o : Oper} {a : Act} {K : Act → World → Prop} {Q : Exit → Act → World → Prop} {E : Prop} (hgd : o.guard = none) (s x : Operand)
    (ho : o.op = .call { callee := .builtin .append, args := #[s, x], argTypes := #[54, 54] })
    (hq : QRow w D A c rs) (n : Nat) (hn : rs.length = n) (hn2 : n ≤ 1000000) (hs : a.eval s = .slice A n c) (r : QRec) (ad : Addr) (cc : Nat) (hx : a.eval x = .slice (some ad) 1 cc) (hc : w.cell? ad = some (PtrQ r))
    (h : ∀ A' c' w', QRow w' (fun i => D i ∨ (w.heap.size ≤ i ∧ i < w'.heap.size)) A' c' (rs ++ [r]) → Fr (fun i => D i ∧ ∃ cs, Blk w i 77 cs) w w' → K (a.put o.dst (.slice A' (n + 1) c')) w') :
    if Region.wanted o (yielded ops a.tmps) = true then Oper.wp Try.prog o a w K Q else E := by
  have hw : Region.wanted o (yielded ops a.tmps) = true := by simp [Region.wanted, hgd]
  rw [if_pos hw]
  subst hn
  obtain ⟨A', c', w', hrun, h2, h3⟩ := run_append_q o.type hq hn2 r ad cc hc
  unfold Oper.wp execOp
  simp only [ho, resolve, invoke, builtin, Sem.run_bind, Sem.run_pure, Result.andThen_ok, List.map_toArray, List.map_cons, List.map_nil, hs, hx, hrun]
  exact h A' c' w' h2 h3
/-- A ring more. -/
theorem Qu.more {g : Nat} {dv : Value} (h : Qu w g dv D rs) (hne : ∀ r ∈ rs, r.l ≠ []) {w2 w3 : World} {x : Int} {g' s' : Nat} {A' : Option Addr} {c' : Nat} (hb : Below w.heap.size w w2) (hr : RgI w2 g' s' 32 0 [x]) (hg : w.heap.size ≤ g') (hs : w.heap.size ≤ s')
    (hq : QRow w3 (fun i => D i ∨ (w2.heap.size ≤ i ∧ i < w3.heap.size)) A' c' (rs ++ [⟨g', s', 0, [x]⟩])) (hf : Fr (fun i => D i ∧ ∃ cs, Blk w2 i 77 cs) w2 w3) :
    Qu (w3.setCell ⟨g, 0, none⟩ (.slice A' (rs.length + 1) c')) g dv (fun i => D i ∨ (w.heap.size ≤ i ∧ i < (w3.setCell ⟨g, 0, none⟩ (.slice A' (rs.length + 1) c')).heap.size)) (rs ++ [⟨g', s', 0, [x]⟩]) ∧ Fr D w (w3.setCell ⟨g, 0, none⟩ (.slice A' (rs.length + 1) c')) := by
  obtain ⟨t1, t2, t3, t4, t5, t6⟩ := ringT_ne
  obtain ⟨A, c, a1, a2⟩ := h.box
  have hz := hb.size
  have hz3 := hf.size
  have hzW : (w3.setCell ⟨g, 0, none⟩ (.slice A' (rs.length + 1) c')).heap.size = w3.heap.size := by simp [World.setCell]
  have hg2 := a1.below hb a1.lt
  have hg3 := hf.blk hg2 (fun e => by obtain ⟨_, cs, e⟩ := e; exact Blk.ne_ hg2 e (Ne.symm t3) rfl)
  have hset := (Fr.refl (fun i => i = g) w3).setCell (p := ⟨g, 0, none⟩) (.inl rfl) (.slice A' (rs.length + 1) c')
  have keep : ∀ {a b f : Nat} {l : List Int}, RgI w2 a b 32 f l → RgI (w3.setCell ⟨g, 0, none⟩ (.slice A' (rs.length + 1) c')) a b 32 f l := fun {a b f l} q => by
    obtain ⟨zz, -, e1, -⟩ := q.row
    have q3 : RgI w3 a b 32 f l := q.fr hf (fun e => by obtain ⟨_, cs, e⟩ := e; exact Blk.ne_ q.box e t4 rfl) (fun e => by obtain ⟨_, cs, e⟩ := e; exact Blk.ne_ e1 e t5 rfl)
    obtain ⟨zz, -, e1, -⟩ := q3.row
    exact q3.fr hset (fun e => Blk.ne_ q3.box hg3 t1 e) (fun e => Blk.ne_ e1 hg3 t2 e)
  refine ⟨⟨⟨A', c', ?_, ?_⟩, fun r hr' => ?_, fun i j r1 r2 h1 h2 hij => ?_, .inr (fun r hr' => ?_), .inl h.dg⟩, ?_⟩
  · have := hg3.set_ 0 (.slice A' (rs.length + 1) c')
    simpa using this
  · have hq2 := hq.fr hset (fun i cs hb' _ e => Blk.ne_ hb' hg3 t3 e)
    rcases hq2 with hq2 | ⟨b, o, cs, h1, h2, h3, h0, h4, h5, h6, h7⟩
    · exact .inl hq2
    · refine .inr ⟨b, o, cs, h1, h2, h3, h0, h4, h5, ?_, h7⟩
      rcases h6 with h6 | h6
      · exact .inl h6
      · right; rw [hzW]; omega
  · rw [List.mem_append] at hr'
    rcases hr' with hr' | hr'
    · obtain ⟨q1, q2, q3⟩ := h.rings r hr'
      exact ⟨keep (q1.below hb q1.lt.1 q1.lt.2), .inl q2, .inl q3⟩
    · simp at hr'
      subst hr'
      have hl := hr.lt
      exact ⟨keep hr, .inr ⟨hg, by rw [hzW]; simp; omega⟩, .inr ⟨hs, by rw [hzW]; simp; omega⟩⟩
  · have hd : ∀ (i : Nat) (r : QRec), (rs ++ [⟨g', s', 0, [x]⟩])[i]? = some r → (rs[i]? = some r ∧ r.g < w.heap.size ∧ r.s < w.heap.size) ∨ (i = rs.length ∧ r.g = g' ∧ r.s = s') := fun i r hi => by
      rcases Nat.lt_or_ge i rs.length with hlt | hge
      · rw [List.getElem?_append_left hlt] at hi
        have := (h.rings r (List.mem_of_getElem? hi)).1.lt
        exact .inl ⟨hi, this.1, this.2⟩
      · rw [List.getElem?_append_right hge] at hi
        have hil : i = rs.length := by
          have := (List.getElem?_eq_some_iff.1 hi).1
          simp at this
          omega
        subst hil
        simp at hi
        subst hi
        exact .inr ⟨rfl, rfl, rfl⟩
    rcases hd i r1 h1 with ⟨p1, p2, p3⟩ | ⟨p1, p2, p3⟩ <;> rcases hd j r2 h2 with ⟨p4, p5, p6⟩ | ⟨p4, p5, p6⟩
    · exact h.df i j r1 r2 p1 p4 hij
    · omega
    · omega
    · omega
  · rw [List.mem_append] at hr'
    rcases hr' with hr' | hr'
    · exact hne r hr'
    · simp at hr'
      subst hr'
      simp
  · exact (((Fr.of_below hb).mono (S := D) (fun i hi e => by omega)).trans hf (fun i _ e => e.1)).trans hset (fun i _ e => by subst e; exact h.dg)

set_option maxRecDepth 100000 in
set_option maxHeartbeats 4000000 in
theorem put_q_nil (g : Nat) (dv : Value) (D : Nat → Prop) (w : World) (x : Int) (h : Qu w g dv D []) :
    Calls Try.prog 35 #[.pointer (some ⟨g, 0, none⟩), .int .i64 x] w fun e w' => e = .returned (.tuple #[]) ∧ ∃ rs', Qu w' g dv (fun i => D i ∨ (w.heap.size ≤ i ∧ i < w'.heap.size)) rs' ∧ contQ rs' = [x] ∧ Fr D w w' := by
  obtain ⟨A, c, hb, hrow⟩ := h.box
  have c0 : w.cell? ⟨g, 0, none⟩ = some (.slice A 0 c) := (hb.cell 0).trans rfl
  have z0 : w.frozen? ⟨g, 0, none⟩ = false := hb.frozen 0
  have H := Lib.hid h; have HR := Lib.hid hrow; have HB := Lib.hid hb
  have hgl := hb.lt
  obtain ⟨t1, t2, t3, t4, t5, t6⟩ := ringT_ne
  clear h hrow hb
  go_enter Try.func35, Try.ntmps35
  go_wp2_with fail
  have hnew : ∀ W : World, Reads W (w.heap.size + 1) 1 (some ⟨w.heap.size, 0, none⟩) 1 [.int .i64 x] → w.heap.size + 1 ≤ W.heap.size → Below w.heap.size w W →
      Calls Try.prog 50 #[.int .i64 32, .slice (some ⟨w.heap.size, 0, none⟩) 1 1] W fun e w1 => ∃ gn sn, e = .returned (.pointer (some ⟨gn, 0, none⟩)) ∧ Hid (RgI w1 gn sn 32 0 [x] ∧ w.heap.size ≤ gn ∧ w.heap.size ≤ sn ∧ Below w.heap.size w w1) ∧
        w1.cell? ⟨g, 0, none⟩ = some (.slice A 0 c) ∧ w1.frozen? ⟨g, 0, none⟩ = false ∧ g < w1.heap.size := fun W hW hz hbW => by
    refine (new_anyI 32 [x] 1 rfl W (w.heap.size + 1) (some ⟨w.heap.size, 0, none⟩) 1 hW hz).mono ?_
    rintro e w1 ⟨gn, sn, rfl, hq, hg', hs', hb1⟩
    have hbw : Below w.heap.size w w1 := hbW.trans (hb1.mono (by omega))
    have hg1 := HB.out.below hbw hgl
    exact ⟨gn, sn, rfl, Lib.hid ⟨hq, by omega, by omega, hbw⟩, (hg1.cell 0).trans rfl, hg1.frozen 0, hg1.lt⟩
  have happ : ∀ (w1 : World) (gn sn : Nat), Below w.heap.size w w1 → QRow (w1.alloc (.cells #[.pointer (some ⟨gn, 0, none⟩)] 77)) D A c [] := fun w1 gn sn hb1 =>
    HR.out.fr (Fr.of_below (hb1.alloc hb1.size _)) (fun i cs hb _ e => by have := hb.lt; omega)
  have HAPP := Lib.hid happ
  clear happ
  have HNEW := Lib.hid hnew
  clear hnew
  go_region_law (first
      | (refine step_append_q (by rfl) (.tmp 29) (.tmp 33) (by rfl) (HAPP.out w1 gn sn HN1.out.2.2.2) 0 rfl (by omega) (by rfl) ⟨gn, sn, 0, [x]⟩ ⟨w1.heap.size, 0, none⟩ 1 (by rfl) (by simp) ?_
         intro A' c' w3 hq3 hf3
         have hg3 := hf3.blk ((HB.out.below HN1.out.2.2.2 hgl).alloc (.cells #[.pointer (some ⟨gn, 0, none⟩)] 77)) (fun e => by obtain ⟨_, cs, e⟩ := e; exact Blk.ne_ ((HB.out.below HN1.out.2.2.2 hgl).alloc _) e (Ne.symm t3) rfl)
         have cw3 : w3.cell? ⟨g, 0, none⟩ = some (.slice A 0 c) := (hg3.cell 0).trans rfl
         have zw3 : w3.frozen? ⟨g, 0, none⟩ = false := hg3.frozen 0)
      | (go_simp
         refine (HNEW.out _ (by exact (reads_one_int w x _)) (by simp) (by first | exact ((Below.refl _ w).alloc (Nat.le_refl _) _).drew | exact (Below.refl _ w).drew.alloc (Nat.le_refl _) _ | exact (Below.refl _ w).alloc (Nat.le_refl _) _)).mono ?_
         rintro e w1 ⟨gn, sn, rfl, HN1, cw1, zw1, lw1⟩
         go_wp2_with fail)
      | fail)
  all_goals
    go_end0
    have hbl := HN1.out.2.2.2
    have hfin := Qu.more H.out (by simp) (hbl.alloc hbl.size (.cells #[.pointer (some ⟨gn, 0, none⟩)] 77)) (HN1.out.1.alloc _) HN1.out.2.1 HN1.out.2.2.1 hq3 hf3
    exact ⟨rfl, _, hfin.1, by simp [contQ], hfin.2⟩

theorem Fr.drew_in {S : Nat → Prop} {w W : World} {n : Nat} (h : Fr S (w.drewN n) W) : Fr S w W := ⟨h.os, h.tape, h.output, h.size, h.block⟩
set_option maxRecDepth 100000 in
set_option maxHeartbeats 4000000 in
theorem put_q_full (g : Nat) (dv : Value) (D : Nat → Prop) (init : List QRec) (r : QRec) (w : World) (x : Int) (h : Qu w g dv D (init ++ [r])) (hr : 32 ≤ r.l.length) (hN : (contQ (init ++ [r])).length ≤ 999999) :
    Calls Try.prog 35 #[.pointer (some ⟨g, 0, none⟩), .int .i64 x] w fun e w' => e = .returned (.tuple #[]) ∧ ∃ rs', Qu w' g dv (fun i => D i ∨ (w.heap.size ≤ i ∧ i < w'.heap.size)) rs' ∧ contQ rs' = contQ (init ++ [r]) ++ [x] ∧ Fr D w w' := by
  have hcnt := h.cnt (by omega)
  obtain ⟨A, c, hb, hrow⟩ := h.box
  obtain ⟨n, hn⟩ : ∃ n, n = init.length := ⟨_, rfl⟩
  have hlen : (init ++ [r]).length = n + 1 := by simp [hn]
  rw [hlen] at hcnt
  have hne : ∀ r' ∈ init ++ [r], r'.l ≠ [] := by
    rcases h.ne with h1 | h1
    · have hi0 : init = [] := by cases init with
        | nil => rfl
        | cons a b => simp at h1
      subst hi0
      intro r' hr'
      simp at hr'
      subst hr'
      intro e
      rw [e] at hr
      simp at hr
    · exact h1
  have c0 : w.cell? ⟨g, 0, none⟩ = some (.slice A (n + 1) c) := by rw [hb.cell, hlen]; rfl
  obtain ⟨ad, rfl, hcx, _⟩ := hrow.cell (i := n) (r := r) (by rw [hn]; simp)
  have hri := (h.rings r (by simp)).1
  have hq := push_noI r.g r.s 32 r.f r.l w hri x hr
  have HQ := Lib.hid hq; have H0 := Lib.hid h; have HR0 := Lib.hid hrow; have HB0 := Lib.hid hb; have HN := Lib.hid hn; have HLEN := Lib.hid hlen; have HNE := Lib.hid hne
  have hgl := hb.lt
  have hw1 : IntKind.i64.wrap (((n + 1 : Nat) : Int) - 1) = (n : Int) := by rw [IntWalk.i64_in _ (by omega)]; omega
  obtain ⟨t1, t2, t3, t4, t5, t6⟩ := ringT_ne
  clear h hrow hb hn hri hq hlen hne hr
  go_enter Try.func35, Try.ntmps35
  go_wp2_with fail
  refine HQ.out.mono ?_
  rintro e w' ⟨rfl, d, rfl⟩
  have H := Lib.hid (H0.out.drewN d)
  have hr1 : QRow (w.drewN d) D (some ad) c (init ++ [r]) := HR0.out.fr (S := fun _ => False) ((Fr.refl _ w).drewN d) (fun _ _ _ _ h => h)
  have hb1 : Blk (w.drewN d) g 59 #[.slice (some ad) (init ++ [r]).length c, dv] := HB0.out.drewN d
  rw [HLEN.out] at hb1
  have hend : ∀ W : World, Fr D (w.drewN d) W → Fr D w W := fun W h => h.drew_in
  have c0 : (w.drewN d).cell? ⟨g, 0, none⟩ = some (.slice (some ad) (n + 1) c) := (hb1.cell 0).trans rfl
  have z0 : (w.drewN d).frozen? ⟨g, 0, none⟩ = false := hb1.frozen 0
  have hsz : (w.drewN d).heap.size = w.heap.size := rfl
  have hgl : g < (w.drewN d).heap.size := hgl
  have hn2 : n + 1 ≤ 1000000 := hcnt
  have hadb : True := trivial
  have HR := Lib.hid hr1; have HB := Lib.hid hb1; have HEND := Lib.hid hend; have HSZ := Lib.hid hsz
  clear hr1 hb1 hend HQ H0 HR0 HB0 hcx hsz
  generalize w.drewN d = W1 at *
  go_wp2_with fail
  have hnew : ∀ W : World, Reads W (W1.heap.size + 1) 1 (some ⟨W1.heap.size, 0, none⟩) 1 [.int .i64 x] → W1.heap.size + 1 ≤ W.heap.size → Below W1.heap.size W1 W →
      Calls Try.prog 50 #[.int .i64 32, .slice (some ⟨W1.heap.size, 0, none⟩) 1 1] W fun e w1 => ∃ gn sn, e = .returned (.pointer (some ⟨gn, 0, none⟩)) ∧ Hid (RgI w1 gn sn 32 0 [x] ∧ W1.heap.size ≤ gn ∧ W1.heap.size ≤ sn ∧ Below W1.heap.size W1 w1) ∧
        w1.cell? ⟨g, 0, none⟩ = some (.slice (some ad) (n + 1) c) ∧ w1.frozen? ⟨g, 0, none⟩ = false ∧ g < w1.heap.size := fun W hW hz hbW => by
    refine (new_anyI 32 [x] 1 rfl W (W1.heap.size + 1) (some ⟨W1.heap.size, 0, none⟩) 1 hW hz).mono ?_
    rintro e w1 ⟨gn, sn, rfl, hq, hg', hs', hb1⟩
    have hbw : Below W1.heap.size W1 w1 := hbW.trans (hb1.mono (by omega))
    have hg1 := HB.out.below hbw hgl
    exact ⟨gn, sn, rfl, Lib.hid ⟨hq, by omega, by omega, hbw⟩, (hg1.cell 0).trans rfl, hg1.frozen 0, hg1.lt⟩
  have happ : ∀ (w1 : World) (gn sn : Nat), Below W1.heap.size W1 w1 → QRow (w1.alloc (.cells #[.pointer (some ⟨gn, 0, none⟩)] 77)) D (some ad) c (init ++ [r]) := fun w1 gn sn hb1 =>
    HR.out.fr (Fr.of_below (hb1.alloc hb1.size _)) (fun i cs hb _ e => by have := hb.lt; omega)
  have HAPP := Lib.hid happ
  clear happ
  have HNEW := Lib.hid hnew
  clear hnew
  go_region_law (first
      | (refine step_append_q (by rfl) (.tmp 29) (.tmp 33) (by rfl) (HAPP.out w1 gn sn HN1.out.2.2.2) (n + 1) HLEN.out (by omega) (by rfl) ⟨gn, sn, 0, [x]⟩ ⟨w1.heap.size, 0, none⟩ 1 (by rfl) (by simp) ?_
         intro A' c' w3 hq3 hf3
         have hg3 := hf3.blk ((HB.out.below HN1.out.2.2.2 hgl).alloc (.cells #[.pointer (some ⟨gn, 0, none⟩)] 77)) (fun e => by obtain ⟨_, cs, e⟩ := e; exact Blk.ne_ ((HB.out.below HN1.out.2.2.2 hgl).alloc _) e (Ne.symm t3) rfl)
         have cw3 : w3.cell? ⟨g, 0, none⟩ = some (.slice (some ad) (n + 1) c) := (hg3.cell 0).trans rfl
         have zw3 : w3.frozen? ⟨g, 0, none⟩ = false := hg3.frozen 0)
      | (go_simp
         refine (HNEW.out _ (by exact (reads_one_int W1 x _)) (by simp) (by first | exact ((Below.refl _ W1).alloc (Nat.le_refl _) _).drew | exact (Below.refl _ W1).drew.alloc (Nat.le_refl _) _ | exact (Below.refl _ W1).alloc (Nat.le_refl _) _)).mono ?_
         rintro e w1 ⟨gn, sn, rfl, HN1, cw1, zw1, lw1⟩
         go_wp2_with fail)
      | fail)
  all_goals
    go_end0
    have hbl := HN1.out.2.2.2
    have hfin := Qu.more H.out HNE.out (hbl.alloc hbl.size (.cells #[.pointer (some ⟨gn, 0, none⟩)] 77)) (HN1.out.1.alloc _) HN1.out.2.1 HN1.out.2.2.1 hq3 hf3
    rw [HLEN.out, HSZ.out] at hfin
    exact ⟨rfl, _, hfin.1, by simp [contQ], HEND.out _ hfin.2⟩
end
end Go.Proofs.Ytipflplilkecjaa
