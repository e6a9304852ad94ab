
/-
  The document's states: what a call's box holds; a row that grows; Lock.
-/
import Derived.Test.YtikelkfinjcgaaaLkP2
import Derived.Deep.RegionLaw
set_option linter.unusedVariables false
set_option linter.unusedSimpArgs false
namespace Go.Proofs.Ytikelkfinjcgaaa
open Go.RowKit Plain

section
variable {P : Program}
theorem res9_1 {fn : Func} {p q : Tmp} {ty : TypeId} (h : fn.results = #[.cell p ty, .tmp q]) (tmps : Array Value) (w : World) (g : Nat) (t : TypeId) (cs : Array Value) (fr : Nat × Nat) (d : TypeDesc) (u : Value)
    (hp : tmps.getD p undef = .pointer (some ⟨g, 0, none⟩)) (hq : tmps.getD q undef = u) (hg : w.heap[g]? = some (.cells cs t fr))
    (hu : P.underlying ty = some d) (hd : (match d with | .struct _ | .array _ _ => true | _ => false) = true) (hi : (P.info? ty).map (·.size) = some cs.size) :
    (results fn tmps).run P w = .ok (.tuple #[.agg cs, u]) w := by
  have hp' : tmps[p]?.getD undef = .pointer (some ⟨g, 0, none⟩) := by simpa using hp
  have hq' : tmps[q]?.getD undef = u := by simpa using hq
  simp [results, h, hp', hq', asAddr, run_loadVar_row w g t ty cs fr d hg hu hd hi]
theorem res9_2 {fn : Func} {p q r : Tmp} {ty : TypeId} (h : fn.results = #[.cell p ty, .tmp q, .tmp r]) (tmps : Array Value) (w : World) (g : Nat) (t : TypeId) (cs : Array Value) (fr : Nat × Nat) (d : TypeDesc) (u v : Value)
    (hp : tmps.getD p undef = .pointer (some ⟨g, 0, none⟩)) (hq : tmps.getD q undef = u) (hr : tmps.getD r undef = v) (hg : w.heap[g]? = some (.cells cs t fr))
    (hu : P.underlying ty = some d) (hd : (match d with | .struct _ | .array _ _ => true | _ => false) = true) (hi : (P.info? ty).map (·.size) = some cs.size) :
    (results fn tmps).run P w = .ok (.tuple #[.agg cs, u, v]) w := by
  have hp' : tmps[p]?.getD undef = .pointer (some ⟨g, 0, none⟩) := by simpa using hp
  have hq' : tmps[q]?.getD undef = u := by simpa using hq
  have hr' : tmps[r]?.getD undef = v := by simpa using hr
  simp [results, h, hp', hq', hr', asAddr, run_loadVar_row w g t ty cs fr d hg hu hd hi]
end
section
variable {w w' W1 : World} {S : Nat → Prop} {B T : Nat} {v : Value} {L : List (List Int)}
theorem OwnSS.at_ (h : OwnSS w B T v L) {i : Nat} (hi : i < L.length) : ∃ b cap A c, v = .slice (some ⟨b, 0, none⟩) L.length cap ∧ L.length ≤ cap ∧ B ≤ b ∧ b < T ∧ b < w.heap.size ∧ w.cell? ⟨b, i, none⟩ = some (.slice A (gl L i).length c) ∧ (∀ j, w.frozen? ⟨b, j, none⟩ = false) ∧ OwnI w B (.slice A (gl L i).length c) (gl L i) ∧ (∀ k, (Value.slice A (gl L i).length c).ownBlock = some k → B ≤ k ∧ k < T ∧ k ≠ b) := by
  obtain ⟨vs, h1, h2, h3, h4⟩ := h
  obtain ⟨b, cap, cs, rfl, hc, hb, hbl, ho, hblk, hcl, ht⟩ := own_form h1 (by omega)
  obtain ⟨x, e, hx, hl⟩ := h3 i _ (gl_some hi)
  obtain ⟨A, c, e2, _, _⟩ := hx.slice
  subst e2
  refine ⟨b, cap, A, c, rfl, hc, hb, h2 b ho, hbl, ?_, fun j => hblk.frozen j, hx, fun k hk => ⟨(own_blk hx hk).1, hl k hk, fun e => own_ne hx h1 tI_ne_tS hk (by rw [ho, e])⟩⟩
  rw [hblk.cell]
  rw [← ht, List.getElem?_take_of_lt hi] at e
  simpa using e
/-- A row of them has grown, and stands in its place. -/
theorem OwnSS.append (h : OwnSS W1 B T v L) {b n cap i : Nat} (hv : v = .slice (some ⟨b, 0, none⟩) n cap) (hi : i < L.length) {x x' : Value} (hx : W1.cell? ⟨b, i, none⟩ = some x) (hf : Fr (fun k => x.ownBlock = some k) W1 w') {A : Option Addr} {c : Nat} {l : List Int} (hx' : x' = .slice A l.length c) (hown : OwnI w' B x' l) :
    OwnS (w'.setCell ⟨b, i, none⟩ x') B (fun k => B ≤ k) v (L.set i l) ∧ Fr (fun k => B ≤ k ∧ k < T) W1 (w'.setCell ⟨b, i, none⟩ x') := by
  subst hv hx'
  obtain ⟨vs, h1, h2, h3, h4⟩ := h
  have hn : n = L.length := by
    rcases h1.2 with ⟨h0, _⟩ | ⟨g', cap, cur, h0, _⟩
    · cases h0
    · injection h0
  subst hn
  obtain ⟨b', cap', cs, e1, hc, hb, hbl, ho, hblk, hcl, ht⟩ := own_form h1 (by omega)
  injection e1 with e1 _ e3
  injection e1 with e1
  injection e1 with e1
  subst e1 e3
  have hvi : vs[i]? = some x := by
    rw [hblk.cell] at hx
    rw [← ht, List.getElem?_take_of_lt hi]
    simpa using hx
  obtain ⟨x0, e, hx0, hxl⟩ := h3 i _ (gl_some hi)
  rw [hvi] at e
  injection e with e
  subst e
  have hfs := fr_set w' b i (.slice A l.length c)
  have h1' := hf.own h1 (fun k hk e => own_ne h1 hx0 (Ne.symm tI_ne_tS) hk e)
  have hxb : ∀ k, x.ownBlock = some k → k ≠ b := fun k hk e => own_ne hx0 h1 tI_ne_tS hk (by rw [ho, e])
  refine ⟨⟨vs.set i (.slice A l.length c), by rw [List.length_set]; exact own_set h1' i _, fun j l' hj => ?_⟩, ?_⟩
  · have hrn : ∀ {A0 : Option Addr} {c0 : Nat} {y : List Int}, OwnI w' B (.slice A0 y.length c0) y → RN (w'.setCell ⟨b, i, none⟩ (.slice A l.length c)) (fun k => B ≤ k) A0 c0 y := by
      intro A2 c2 y hy
      have := hfs.own hy (fun k hk e => by
        have hk2 := own_ne hy h1' tI_ne_tS hk
        exact hk2 (by rw [ho, e]))
      exact RN.of_own this
    by_cases hij : i = j
    · subst hij
      rw [List.getElem?_set_self hi] at hj
      injection hj with hj
      subst hj
      exact ⟨A, c, by rw [List.getElem?_set_self (List.getElem?_eq_some_iff.1 hvi).1], hrn hown⟩
    · rw [List.getElem?_set_ne hij] at hj
      obtain ⟨y, e, hy, hyl⟩ := h3 j l' hj
      obtain ⟨A2, c2, e2, _, _⟩ := hy.slice
      subst e2
      exact ⟨A2, c2, by rw [List.getElem?_set_ne hij]; exact e, hrn (hf.own hy (fun k hk e' => h4 i j x _ hvi e hij k e' hk))⟩
  · refine (hf.mono (S := fun k => B ≤ k ∧ k < T) (fun k _ hk => ⟨(own_blk hx0 hk).1, hxl k hk⟩)).trans (hfs.mono (S := fun k => B ≤ k ∧ k < T) (fun k _ e => by subst e; exact ⟨hb, h2 _ ho⟩)) (fun _ _ h => h)
/-- A row of them is put in. -/
theorem OwnSS.put (h : OwnSS W1 B T v L) {b n cap i : Nat} (hv : v = .slice (some ⟨b, 0, none⟩) n cap) (hi : i < L.length) {A : Option Addr} {c : Nat} {l : List Int} (hr : RN W1 (fun k => B ≤ k ∧ k < T ∧ k ≠ b) A c l) :
    OwnS (W1.setCell ⟨b, i, none⟩ (.slice A l.length c)) B (fun k => B ≤ k) v (L.set i l) ∧ Fr (fun k => B ≤ k ∧ k < T) W1 (W1.setCell ⟨b, i, none⟩ (.slice A l.length c)) := by
  have hb : v.ownBlock = some b := by rw [hv]; rfl
  obtain ⟨vs, h1, h2, h3, h4⟩ := h
  have hos : OwnS W1 B (fun k => B ≤ k ∧ k < T ∧ k ≠ b) v L := by
    have h0 : OwnSS W1 B T v L := ⟨vs, h1, h2, h3, h4⟩
    refine ⟨vs, h1, fun j l' hj => ?_⟩
    obtain ⟨y, e, hy, hyl⟩ := h3 j l' hj
    obtain ⟨A2, c2, e2, _, _⟩ := hy.slice
    subst e2
    refine ⟨A2, c2, e, (RN.of_own hy).1, fun h5 => ?_⟩
    obtain ⟨ad, e3, hd, hbl, hc⟩ := (RN.of_own hy).2 h5
    obtain ⟨b2, cc, cs, e4, _, _, _, ho, _⟩ := own_form hy h5
    injection e4 with e5 _ _
    rw [e3] at e5
    injection e5 with e5
    subst e5
    exact ⟨_, e3, ⟨hd, hyl _ ho, fun e6 => own_ne hy h1 tI_ne_tS ho (by rw [hb, ← e6])⟩, hbl, hc⟩
  refine ⟨(hos.set hv hi (fun k hk => hk.2.2) hr).mono (fun k hk _ => hk.1), (fr_set W1 b i _).mono (fun k _ e => ?_)⟩
  subst e
  exact ⟨(own_blk h1 hb).1, h2 _ hb⟩
end
/-- What the boxes of a call of the document's hold, behind own. -/
structure DB (w W : World) (b0 b1 b2 b3 b4 b5 : Nat) (z : LkQ) (p q n : Nat) (s : Lk) : Prop where
  k : Blk W w.heap.size 27 (mkC z p q n)
  r : Blk W (w.heap.size + 1) 27 zeroC
  d : DO W b0 b1 b2 b3 b4 b5 z p q n s
  l : Below w.heap.size w W
  lt : w.heap.size + 1 < b0
/-- The end of a call: the box is read, the result is written. -/
theorem doc_fin {w W : World} {z : LkQ} {p q n : Nat} {s : Lk} (hr : Blk W (w.heap.size + 1) 27 zeroC) (hl : Below w.heap.size w W) (hd : DocC W (fun k => w.heap.size + 1 < k) z p q n s) :
    Blk ((((((((((W.setCell ⟨w.heap.size + 1, 0, none⟩ (.int .i64 0)).setCell ⟨w.heap.size + 1, 1, none⟩ (.slice none 0 0)).setCell ⟨w.heap.size + 1, 2, none⟩ (.slice z.A0 p z.d0)).setCell ⟨w.heap.size + 1, 3, none⟩ (.slice z.A1 n z.d1)).setCell ⟨w.heap.size + 1, 4, none⟩ (.slice none 0 0)).setCell ⟨w.heap.size + 1, 5, none⟩ (.slice z.A2 p z.d2)).setCell ⟨w.heap.size + 1, 6, none⟩ (.slice z.A3 q z.d3)).setCell ⟨w.heap.size + 1, 7, none⟩ (.slice z.A4 n z.d4)).setCell ⟨w.heap.size + 1, 8, none⟩ (.slice none 0 0)).setCell ⟨w.heap.size + 1, 9, none⟩ (.slice none 0 0)) (w.heap.size + 1) 27 (mkC z p q n) ∧
    DocC ((((((((((W.setCell ⟨w.heap.size + 1, 0, none⟩ (.int .i64 0)).setCell ⟨w.heap.size + 1, 1, none⟩ (.slice none 0 0)).setCell ⟨w.heap.size + 1, 2, none⟩ (.slice z.A0 p z.d0)).setCell ⟨w.heap.size + 1, 3, none⟩ (.slice z.A1 n z.d1)).setCell ⟨w.heap.size + 1, 4, none⟩ (.slice none 0 0)).setCell ⟨w.heap.size + 1, 5, none⟩ (.slice z.A2 p z.d2)).setCell ⟨w.heap.size + 1, 6, none⟩ (.slice z.A3 q z.d3)).setCell ⟨w.heap.size + 1, 7, none⟩ (.slice z.A4 n z.d4)).setCell ⟨w.heap.size + 1, 8, none⟩ (.slice none 0 0)).setCell ⟨w.heap.size + 1, 9, none⟩ (.slice none 0 0)) (fun k => w.heap.size ≤ k) z p q n s ∧
    Below w.heap.size w ((((((((((W.setCell ⟨w.heap.size + 1, 0, none⟩ (.int .i64 0)).setCell ⟨w.heap.size + 1, 1, none⟩ (.slice none 0 0)).setCell ⟨w.heap.size + 1, 2, none⟩ (.slice z.A0 p z.d0)).setCell ⟨w.heap.size + 1, 3, none⟩ (.slice z.A1 n z.d1)).setCell ⟨w.heap.size + 1, 4, none⟩ (.slice none 0 0)).setCell ⟨w.heap.size + 1, 5, none⟩ (.slice z.A2 p z.d2)).setCell ⟨w.heap.size + 1, 6, none⟩ (.slice z.A3 q z.d3)).setCell ⟨w.heap.size + 1, 7, none⟩ (.slice z.A4 n z.d4)).setCell ⟨w.heap.size + 1, 8, none⟩ (.slice none 0 0)).setCell ⟨w.heap.size + 1, 9, none⟩ (.slice none 0 0)) := by
  have hF := fr_set10 W (w.heap.size + 1) (.int .i64 0) (.slice none 0 0) (.slice z.A0 p z.d0) (.slice z.A1 n z.d1) (.slice none 0 0) (.slice z.A2 p z.d2) (.slice z.A3 q z.d3) (.slice z.A4 n z.d4) (.slice none 0 0) (.slice none 0 0)
  exact ⟨hr.set10 _ _ _ _ _ _ _ _ _ _, (hd.fr hF (fun i hi _ e => by omega)).mono (fun i hi _ => by omega), hl.trans (hF.below hl.size (fun i hi => by omega))⟩
section
variable {w W W2 : World} {b0 b1 b2 b3 b4 b5 p q n : Nat} {z : LkQ} {s : Lk}
/-- One part has turned. -/
theorem DB.turnLq (h : DB w W b0 b1 b2 b3 b4 b5 z p q n s) {L : List (List Int)} (hf : Fr (fun k => b2 ≤ k ∧ k < b3) W W2) (hs : OwnS W2 b2 (fun k => b2 ≤ k) (.slice z.A2 p z.d2) L) (hl : L.length = s.lq.length) : Blk W2 w.heap.size 27 (mkC z p q n) ∧ Blk W2 (w.heap.size + 1) 27 zeroC ∧ Below w.heap.size w W2 ∧ DocC W2 (fun k => w.heap.size + 1 < k) z p q n { s with lq := L } := by
  obtain ⟨o1, o2, o3, o4, o5, o6⟩ := h.d.o
  have hlt := h.lt
  have hd := h.d.doc
  have hrn : RNs W2 (fun k => b2 ≤ k) z.A2 z.d2 L := OwnS.rns hs (fun k hk => by obtain ⟨vs, h1, _⟩ := hs; exact (own_blk h1 hk).1)
  have hwq := h.d.wq.fr hf (fun k h1 h2 e => by omega)
  have hdq := h.d.dq.fr hf (fun k h1 h2 e => by omega)
  have hown := hf.own h.d.own (fun k hk e => by have := h.d.ownT k hk; omega)
  have hcnt := hf.own h.d.cnt (fun k hk e => by have := h.d.cntT k hk; omega)
  have hss : ∀ {B T : Nat} {A : Option Addr} {m c : Nat} {L : List (List Int)}, b0 ≤ B → OwnSS W2 B T (.slice A m c) L → RNs W2 (fun k => w.heap.size + 1 < k) A c L := fun {B T A m c L} hB hS =>
    (hS.owns (E := fun k => w.heap.size + 1 < k) (fun k hk _ => by omega)).rns (fun k hk => by
      obtain ⟨vs, h1, _⟩ := hS
      have := (own_blk h1 hk).1
      omega)
  exact ⟨hf.blk h.k (by omega), hf.blk h.r (by omega), h.l.trans (hf.below h.l.size (fun i hi => by omega)), h.d.lo, h.d.ln, by rw [← h.d.ll]; exact hl, h.d.lw, h.d.ld,
    (RN.of_owns h.d.lo hown).mono (fun k hk _ => by omega), (RN.of_owns h.d.ln hcnt).mono (fun k hk _ => by omega), hrn.mono (fun k hk _ => by omega), hss (by omega) hwq, hss (by omega) hdq⟩
theorem DB.turnWq (h : DB w W b0 b1 b2 b3 b4 b5 z p q n s) {L : List (List Int)} (hf : Fr (fun k => b3 ≤ k ∧ k < b4) W W2) (hs : OwnS W2 b3 (fun k => b3 ≤ k) (.slice z.A3 q z.d3) L) (hl : L.length = s.wq.length) : Blk W2 w.heap.size 27 (mkC z p q n) ∧ Blk W2 (w.heap.size + 1) 27 zeroC ∧ Below w.heap.size w W2 ∧ DocC W2 (fun k => w.heap.size + 1 < k) z p q n { s with wq := L } := by
  obtain ⟨o1, o2, o3, o4, o5, o6⟩ := h.d.o
  have hlt := h.lt
  have hrn : RNs W2 (fun k => b3 ≤ k) z.A3 z.d3 L := OwnS.rns hs (fun k hk => by obtain ⟨vs, h1, _⟩ := hs; exact (own_blk h1 hk).1)
  have hlq := h.d.lq.fr hf (fun k h1 h2 e => by omega)
  have hdq := h.d.dq.fr hf (fun k h1 h2 e => by omega)
  have hown := hf.own h.d.own (fun k hk e => by have := h.d.ownT k hk; omega)
  have hcnt := hf.own h.d.cnt (fun k hk e => by have := h.d.cntT k hk; omega)
  have hss : ∀ {B T : Nat} {A : Option Addr} {m c : Nat} {L : List (List Int)}, b0 ≤ B → OwnSS W2 B T (.slice A m c) L → RNs W2 (fun k => w.heap.size + 1 < k) A c L := fun {B T A m c L} hB hS =>
    (hS.owns (E := fun k => w.heap.size + 1 < k) (fun k hk _ => by omega)).rns (fun k hk => by
      obtain ⟨vs, h1, _⟩ := hS
      have := (own_blk h1 hk).1
      omega)
  exact ⟨hf.blk h.k (by omega), hf.blk h.r (by omega), h.l.trans (hf.below h.l.size (fun i hi => by omega)), h.d.lo, h.d.ln, h.d.ll, by rw [← h.d.lw]; exact hl, h.d.ld,
    (RN.of_owns h.d.lo hown).mono (fun k hk _ => by omega), (RN.of_owns h.d.ln hcnt).mono (fun k hk _ => by omega), hss (by omega) hlq, hrn.mono (fun k hk _ => by omega), hss (by omega) hdq⟩
theorem DB.turnDq (h : DB w W b0 b1 b2 b3 b4 b5 z p q n s) {L : List (List Int)} (hf : Fr (fun k => b4 ≤ k ∧ k < b5) W W2) (hs : OwnS W2 b4 (fun k => b4 ≤ k) (.slice z.A4 n z.d4) L) (hl : L.length = s.dq.length) : Blk W2 w.heap.size 27 (mkC z p q n) ∧ Blk W2 (w.heap.size + 1) 27 zeroC ∧ Below w.heap.size w W2 ∧ DocC W2 (fun k => w.heap.size + 1 < k) z p q n { s with dq := L } := by
  obtain ⟨o1, o2, o3, o4, o5, o6⟩ := h.d.o
  have hlt := h.lt
  have hrn : RNs W2 (fun k => b4 ≤ k) z.A4 z.d4 L := OwnS.rns hs (fun k hk => by obtain ⟨vs, h1, _⟩ := hs; exact (own_blk h1 hk).1)
  have hlq := h.d.lq.fr hf (fun k h1 h2 e => by omega)
  have hwq := h.d.wq.fr hf (fun k h1 h2 e => by omega)
  have hown := hf.own h.d.own (fun k hk e => by have := h.d.ownT k hk; omega)
  have hcnt := hf.own h.d.cnt (fun k hk e => by have := h.d.cntT k hk; omega)
  have hss : ∀ {B T : Nat} {A : Option Addr} {m c : Nat} {L : List (List Int)}, b0 ≤ B → OwnSS W2 B T (.slice A m c) L → RNs W2 (fun k => w.heap.size + 1 < k) A c L := fun {B T A m c L} hB hS =>
    (hS.owns (E := fun k => w.heap.size + 1 < k) (fun k hk _ => by omega)).rns (fun k hk => by
      obtain ⟨vs, h1, _⟩ := hS
      have := (own_blk h1 hk).1
      omega)
  exact ⟨hf.blk h.k (by omega), hf.blk h.r (by omega), h.l.trans (hf.below h.l.size (fun i hi => by omega)), h.d.lo, h.d.ln, h.d.ll, h.d.lw, by rw [← h.d.ld]; exact hl,
    (RN.of_owns h.d.lo hown).mono (fun k hk _ => by omega), (RN.of_owns h.d.ln hcnt).mono (fun k hk _ => by omega), hss (by omega) hlq, hss (by omega) hwq, hrn.mono (fun k hk _ => by omega)⟩
/-- A number of the owners' is written: all stays its own. -/
theorem DB.setOwn (h : DB w W b0 b1 b2 b3 b4 b5 z p q n s) {b pp cap : Nat} (hv : Value.slice z.A0 p z.d0 = .slice (some ⟨b, 0, none⟩) pp cap) (m : Nat) (t : Int) : DB w (W.setCell ⟨b, m, none⟩ (.int .i64 t)) b0 b1 b2 b3 b4 b5 z p q n { s with own := s.own.set m t } := by
  obtain ⟨o1, o2, o3, o4, o5, o6⟩ := h.d.o
  have hlt := h.lt
  have hob : (Value.slice z.A0 p z.d0).ownBlock = some b := by rw [hv]; rfl
  have h1 := own_blk h.d.own hob
  have h2 := h.d.ownT b hob
  have hf := fr_set W b m (.int .i64 t)
  have hz := hf.size
  exact ⟨hf.blk h.k (by omega), hf.blk h.r (by omega), ⟨by simpa using h.d.lo, h.d.ln, h.d.ll, h.d.lw, h.d.ld, h.d.own.set hv m t, h.d.ownT, hf.own h.d.cnt (fun k hk e => by have := (own_blk h.d.cnt hk).1; omega), h.d.cntT,
    h.d.lq.fr hf (fun k a1 a2 e => by omega), h.d.wq.fr hf (fun k a1 a2 e => by omega), h.d.dq.fr hf (fun k a1 a2 e => by omega), ⟨o1, o2, o3, o4, o5, by omega⟩⟩, h.l.trans (hf.below h.l.size (fun i hi => by omega)), h.lt⟩
theorem DB.setCnt (h : DB w W b0 b1 b2 b3 b4 b5 z p q n s) {b pp cap : Nat} (hv : Value.slice z.A1 n z.d1 = .slice (some ⟨b, 0, none⟩) pp cap) (m : Nat) (t : Int) : DB w (W.setCell ⟨b, m, none⟩ (.int .i64 t)) b0 b1 b2 b3 b4 b5 z p q n { s with cnt := s.cnt.set m t } := by
  obtain ⟨o1, o2, o3, o4, o5, o6⟩ := h.d.o
  have hlt := h.lt
  have hob : (Value.slice z.A1 n z.d1).ownBlock = some b := by rw [hv]; rfl
  have h1 := own_blk h.d.cnt hob
  have h2 := h.d.cntT b hob
  have hf := fr_set W b m (.int .i64 t)
  have hz := hf.size
  exact ⟨hf.blk h.k (by omega), hf.blk h.r (by omega), ⟨h.d.lo, by simpa using h.d.ln, h.d.ll, h.d.lw, h.d.ld, hf.own h.d.own (fun k hk e => by have := h.d.ownT k hk; omega), h.d.ownT, h.d.cnt.set hv m t, h.d.cntT,
    h.d.lq.fr hf (fun k a1 a2 e => by omega), h.d.wq.fr hf (fun k a1 a2 e => by omega), h.d.dq.fr hf (fun k a1 a2 e => by omega), ⟨o1, o2, o3, o4, o5, by omega⟩⟩, h.l.trans (hf.below h.l.size (fun i hi => by omega)), h.lt⟩
theorem DB.all (h : DB w W b0 b1 b2 b3 b4 b5 z p q n s) : Blk W w.heap.size 27 (mkC z p q n) ∧ Blk W (w.heap.size + 1) 27 zeroC ∧ Below w.heap.size w W ∧ DocC W (fun k => w.heap.size + 1 < k) z p q n s := by
  have := h.lt
  exact ⟨h.k, h.r, h.l, h.d.doc.mono (fun k hk _ => by omega)⟩
end
end Go.Proofs.Ytikelkfinjcgaaa
