
/-
  The document's states in memory: rows that are read, rows of one's own; ints, Lists, own.
-/
import Derived.Test.YtbgigkamlnchcaaChU
set_option linter.unusedVariables false
set_option linter.unusedSimpArgs false
namespace Go.Proofs.Ytbgigkamlnchcaa
open Go.RowKit Plain

theorem all_int9 (l : List Int) : ∀ u ∈ l.map EnI, u.oneCell' = true := fun u hu => by
  obtain ⟨x, _, rfl⟩ := List.mem_map.1 hu
  rfl
/-- Rows that are read, in blocks of E. -/
def RNs (w : World) (E : Nat → Prop) (A : Option Addr) (c : Nat) (L : List (List Int)) : Prop :=
  L.length ≤ c ∧ (0 < L.length → ∃ ad, A = some ad ∧ E ad.block ∧ ad.block < w.heap.size ∧ ∀ (i : Nat) (l : List Int), L[i]? = some l → ∃ A c, w.cell? (ad.add i) = some (.slice A l.length c) ∧ RN w E A c l)
section
variable {w w' : World} {E E' S : Nat → Prop} {A : Option Addr} {c : Nat} {L : List (List Int)}
theorem RNs.fr (h : RNs w E A c L) (hf : Fr S w w') (hS : ∀ i, E i → i < w.heap.size → ¬ S i) : RNs w' E A c L :=
  ⟨h.1, fun hn => by
    obtain ⟨ad, e, hd, hb, hc⟩ := h.2 hn
    refine ⟨ad, e, hd, Nat.lt_of_lt_of_le hb hf.size, fun i l hi => ?_⟩
    obtain ⟨A, c, h1, h2⟩ := hc i l hi
    exact ⟨A, c, (hf.cell (p := ad.add i) (by rw [block_of_add]; exact hb) (by rw [block_of_add]; exact hS _ hd hb)).trans h1, h2.fr hf hS⟩⟩
theorem RNs.mono (h : RNs w E A c L) (hm : ∀ i, E i → i < w.heap.size → E' i) : RNs w E' A c L :=
  ⟨h.1, fun hn => by
    obtain ⟨ad, e, hd, hb, hc⟩ := h.2 hn
    refine ⟨ad, e, hm _ hd hb, hb, fun i l hi => ?_⟩
    obtain ⟨A, c, h1, h2⟩ := hc i l hi
    exact ⟨A, c, h1, h2.mono hm⟩⟩
theorem RNs.below {B : Nat} (h : RNs w E A c L) (hb : Below B w w') (hB : w.heap.size ≤ B) : RNs w' E A c L := h.fr (Fr.of_below hb) (fun i _ hi h => by omega)
theorem RNs.nil (w : World) (E : Nat → Prop) (A : Option Addr) (c : Nat) : RNs w E A c [] := ⟨by simp, fun h => by simp at h⟩
theorem RNs.at_ (h : RNs w E A c L) {i : Nat} (hi : i < L.length) : ∃ ad A1 c1, A = some ad ∧ E ad.block ∧ ad.block < w.heap.size ∧ w.cell? (ad.add i) = some (.slice A1 (gl L i).length c1) ∧ RN w E A1 c1 (gl L i) := by
  obtain ⟨ad, e, hd, hb, hc⟩ := h.2 (by omega)
  obtain ⟨A1, c1, h1, h2⟩ := hc i _ (gl_some hi)
  exact ⟨ad, A1, c1, e, hd, hb, h1, h2⟩
end
/-- Rows of one's own, each in memory of its own, all in blocks from B on, below T. -/
def OwnSS (w : World) (B T : Nat) (v : Value) (L : List (List Int)) : Prop :=
  ∃ vs, w.ownsRow B 25 1 v L.length vs ∧ (∀ k, v.ownBlock = some k → k < T) ∧
    (∀ (i : Nat) (l : List Int), L[i]? = some l → ∃ x, vs[i]? = some x ∧ OwnI w B x l ∧ ∀ k, x.ownBlock = some k → k < T) ∧
    (∀ (i j : Nat) (x y : Value), vs[i]? = some x → vs[j]? = some y → i ≠ j → ∀ k, x.ownBlock = some k → y.ownBlock ≠ some k)
section
variable {w w' : World} {S : Nat → Prop} {B T : Nat} {v : Value} {L : List (List Int)}
theorem OwnSS.fr (h : OwnSS w B T v L) (hf : Fr S w w') (hS : ∀ k, B ≤ k → k < T → ¬ S k) : OwnSS w' B T v L := by
  obtain ⟨vs, h1, h2, h3, h4⟩ := h
  refine ⟨vs, hf.own h1 (fun i hi => hS i (own_blk h1 hi).1 (h2 i hi)), h2, fun i l hi => ?_, h4⟩
  obtain ⟨x, e, hx, hl⟩ := h3 i l hi
  exact ⟨x, e, hf.own hx (fun k hk => hS k (own_blk hx hk).1 (hl k hk)), hl⟩
theorem OwnSS.form (h : OwnSS w B T v L) : ∃ A c, v = .slice A L.length c := by
  obtain ⟨vs, h1, _⟩ := h
  exact own_form_any h1
theorem OwnSS.owns (h : OwnSS w B T v L) {E : Nat → Prop} (hE : ∀ k, B ≤ k → k < T → E k) : OwnS w B E v L := by
  obtain ⟨vs, h1, h2, h3, h4⟩ := h
  refine ⟨vs, h1, fun i l hi => ?_⟩
  obtain ⟨x, e, hx, hl⟩ := h3 i l hi
  obtain ⟨A, c, e2, _, _⟩ := hx.slice
  subst e2
  refine ⟨A, c, e, (RN.of_own hx).1, fun h0 => ?_⟩
  obtain ⟨ad, e3, hd, hb, hc⟩ := (RN.of_own hx).2 h0
  obtain ⟨b, cc, cs, e4, _, _, _, ho, _⟩ := own_form hx h0
  injection e4 with e5 _ _
  rw [e3] at e5
  injection e5 with e5
  subst e5
  exact ⟨_, e3, hE _ hd (hl _ ho), hb, hc⟩
theorem OwnS.rns {E : Nat → Prop} {A : Option Addr} {n c : Nat} (h : OwnS w B E (.slice A n c) L) (hE : ∀ k, (Value.slice A n c).ownBlock = some k → E k) : RNs w E A c L := by
  obtain ⟨vs, h1, h2⟩ := h
  have hn : n = L.length := by
    rcases h1.2 with ⟨h0, h3⟩ | ⟨g', cap, cur, h0, _⟩
    · injection h0 with _ h0 _
      omega
    · injection h0
  subst hn
  refine ⟨?_, fun h0 => ?_⟩
  · rcases h1.2 with ⟨h0, h3⟩ | ⟨g', cap, cur, h0, _, _, hc, _⟩
    · injection h0 with _ _ h0
      omega
    · injection h0 with _ _ h0
      subst h0
      exact hc
  · obtain ⟨b, cc, cs, e, hc, hb, hbl, ho, hblk, hcl, ht⟩ := own_form h1 h0
    injection e with e1 _ e2
    subst e1 e2
    refine ⟨_, rfl, hE b ho, hbl, fun i l hi => ?_⟩
    obtain ⟨A1, c1, h3, h4⟩ := h2 i l hi
    refine ⟨A1, c1, ?_, h4⟩
    have hil := (List.getElem?_eq_some_iff.1 hi).1
    rw [Addr.add_lit, hblk.cell]
    rw [← ht, List.getElem?_take_of_lt hil] at h3
    simpa using h3
end
set_option maxRecDepth 100000 in
set_option maxHeartbeats 2000000 in
theorem ints_any (w : World) (E : Nat → Prop) (A : Option Addr) (c : Nat) (l : List Int) (hr : RN w E A c l) (n : Nat) (hn : l.length = n) (hK : n ≤ 1000000) :
    Calls Try.prog 54 #[.slice A n c] w fun e w' => ∃ v, e = .returned v ∧ OwnI w' w.heap.size v l ∧ Below w.heap.size w w' := by
  obtain ⟨i0, hi0, hz0, hz1, hz2⟩ := info_parts info_int
  have hreads := hr.reads
  rw [hn] at hreads
  have HR := Lib.hid hreads; have HN := Lib.hid hn
  clear hr hreads hn
  go_enter Try.func54, Try.ntmps54
  go_wp2_with (at_builtin; go_must (refine wpList_append_any _ rfl (.tmp 4) (.tmp 5) _ rfl w.heap.size 3 i0 _ 1 8 Try.underlying25 hi0 hz0 hz1 hz2 rfl (by decide) (.slice none 0 0) 0 [] rfl (World.ownsRow_nil _ _ _ _) _ _ n c (l.map EnI) rfl HR.out (all_int9 l) ?c1 ?c2 ?c3 ?c4))
  case c1 => unfold maxLen; omega
  case c2 => omega
  case c3 => exact Nat.le_refl _
  case c4 =>
  intro v' w' hown hg hat
  have hown2 : OwnI w' w.heap.size v' l := by
    unfold OwnI
    rw [HN.out]
    simpa using hown
  have hb : Below w.heap.size w w' := (Below.refl _ w).grown hg (Nat.le_refl _) (by simp [Value.ownBlock])
  have HO := Lib.hid hown2; have HB := Lib.hid hb
  clear hown hg hat hown2 hb
  go_wp2_with fail
  go_ret
  exact ⟨_, rfl, HO.out, HB.out⟩
theorem reads_one_sl (w : World) (x : Value) (hx : x.oneCell' = true) (t : TypeId) : Reads (w.alloc (.cells #[x] t)) (w.heap.size + 1) 1 (some ⟨w.heap.size, 0, none⟩) 1 [x] :=
  ⟨by simp, fun _ => ⟨_, rfl, by simp, fun j u hj => by
    match j, hj with
    | 0, hj => simp at hj; subst hj; simp [Addr.add]⟩⟩
/-- Lists under way. -/
structure LI (w wr : World) (v : Value) (L : List (List Int)) : Prop where
  o : OwnSS wr w.heap.size wr.heap.size v L
  b : Below w.heap.size w wr
theorem LI.start (w : World) : LI w w (.slice none 0 0) [] := ⟨⟨[], World.ownsRow_nil _ _ _ _, fun k hk => by simp [Value.ownBlock] at hk, fun i l hi => by simp at hi, fun i j x y hi => by simp at hi⟩, Below.refl _ _⟩
/-- A row more: it was made in w2, then the row of rows grew. -/
theorem LI.next {w wr w2 w3 : World} {v v3 x : Value} {L : List (List Int)} {l : List Int} {o : Obj} (h : LI w wr v L) (hx : OwnI w2 wr.heap.size x l) (hb2 : Below wr.heap.size wr w2)
    (hown : ∀ ws, w2.ownsRow w.heap.size 25 1 v L.length ws → w3.ownsRow w.heap.size 25 1 v3 (L.length + 1) (ws ++ [x])) (hg : (w2.alloc o).grownBy w3 v.ownBlock) (ha : v3.ownBlock = v.ownBlock ∨ v3.ownBlock = some (w2.alloc o).heap.size) : LI w w3 v3 (L ++ [l]) := by
  obtain ⟨ws, h1, h2, h3, h4⟩ := h.o
  have hz0 := h.b.size
  have hz2 := hb2.size
  have hf2 : Fr (fun k => wr.heap.size ≤ k) wr w2 := Fr.of_below hb2
  have h1' : w2.ownsRow w.heap.size 25 1 v L.length ws := hf2.own h1 (fun i hi e => by have := h2 i hi; omega)
  have hn := hown ws h1'
  have hf3 : Fr (fun k => v.ownBlock = some k) w2 w3 := ((Fr.refl (fun _ => False) w2).alloc o |>.mono (fun _ _ h => h.elim)).trans (Fr.of_grown hg) (fun _ _ h => h)
  have hz3 := hf3.size
  have hxv : ∀ k, x.ownBlock = some k → wr.heap.size ≤ k ∧ k < w2.heap.size := fun k hk => ⟨(own_blk hx hk).1, (own_blk hx hk).2.1⟩
  have hwl := h1.1
  refine ⟨⟨ws ++ [x], by simpa using hn, fun k hk => ?_, fun i l' hi => ?_, fun i j y z hi hj hij k hk hk2 => ?_⟩, (h.b.trans (hb2.mono hz0)).trans (hf3.below (by omega) (fun k hk => (own_blk h1 hk).1))⟩
  · exact (own_blk hn hk).2.1
  · rcases Nat.lt_or_ge i L.length with hil | hil
    · rw [List.getElem?_append_left hil] at hi
      obtain ⟨y, e, hy, hl⟩ := h3 i l' hi
      refine ⟨y, by rw [List.getElem?_append_left (by omega)]; exact e, ?_, fun k hk => by have := hl k hk; omega⟩
      have hy2 : OwnI w2 w.heap.size y l' := hf2.own hy (fun k hk e => by have := hl k hk; omega)
      exact hf3.own hy2 (fun k hk e => own_ne hy2 h1' tI_ne_tS hk e)
    · have hil2 : i < (L ++ [l]).length := (List.getElem?_eq_some_iff.1 hi).1
      simp at hil2
      obtain rfl : i = L.length := by omega
      rw [List.getElem?_append_right (Nat.le_refl _)] at hi
      simp at hi
      subst hi
      refine ⟨x, by rw [List.getElem?_append_right (by omega)]; simp [hwl], ?_, fun k hk => by have := hxv k hk; omega⟩
      have hx3 : OwnI w3 wr.heap.size x l := hf3.own hx (fun k hk e => by have := hxv k hk; have := h2 k e; omega)
      exact own_base hx3 hz0
  · have hlt : ∀ i y, (ws ++ [x])[i]? = some y → (i < L.length ∧ ws[i]? = some y) ∨ (i = L.length ∧ y = x) := fun i y hi => by
      rcases Nat.lt_or_ge i ws.length with hil | hil
      · rw [List.getElem?_append_left hil] at hi
        exact .inl ⟨by omega, hi⟩
      · have hil2 : i < (ws ++ [x]).length := (List.getElem?_eq_some_iff.1 hi).1
        simp at hil2
        obtain rfl : i = ws.length := by omega
        rw [List.getElem?_append_right (Nat.le_refl _)] at hi
        simp at hi
        exact .inr ⟨by omega, hi.symm⟩
    have hold : ∀ i y, i < L.length → ws[i]? = some y → ∀ k, y.ownBlock = some k → k < wr.heap.size := fun i y hil hi k hk => by
      obtain ⟨y', e, _, hl⟩ := h3 i _ (List.getElem?_eq_getElem hil)
      rw [hi] at e
      injection e with e
      subst e
      exact hl k hk
    rcases hlt i y hi with ⟨a1, a2⟩ | ⟨a1, rfl⟩ <;> rcases hlt j z hj with ⟨b1, b2⟩ | ⟨b1, rfl⟩
    · exact h4 i j y z a2 b2 hij k hk hk2
    · have := hold i y a1 a2 k hk
      have := hxv k hk2
      omega
    · have := hold j z b1 b2 k hk2
      have := hxv k hk
      omega
    · omega
set_option maxRecDepth 100000 in
set_option maxHeartbeats 4000000 in
theorem lists_any (w : World) (E : Nat → Prop) (A : Option Addr) (c : Nat) (L : List (List Int)) (hr : RNs w E A c L) (n : Nat) (hn : L.length = n) (hK : n ≤ 1000000) (hl : ∀ i, (gl L i).length ≤ 1000000) :
    Calls Try.prog 50 #[.slice A n c] w fun e w' => ∃ v, e = .returned v ∧ OwnSS w' w.heap.size w'.heap.size v L ∧ Below w.heap.size w w' := by
  obtain ⟨i0, hi0, hz0, hz1, hz2⟩ := info_parts info_sl9
  have HR := Lib.hid hr; have HN := Lib.hid hn; have HL := Lib.hid hl
  clear hr hn hl
  go_enter Try.func50, Try.ntmps50
  go_wp2_with fail
  go_loopw [3, 4] (fun s3 s4 wr => ∃ (k : Nat) (A3 : Option Addr) (c3 : Nat), k ≤ n ∧ s4 = .int .i64 (k : Int) ∧ s3 = .slice A3 k c3 ∧ Hid (LI w wr (.slice A3 k c3) (L.take k))) (fun _ s4 _ => n - (intOf s4).toNat)
  case atStart => exact ⟨0, none, 0, by omega, rfl, rfl, Lib.hid (LI.start w)⟩
  case round =>
    obtain ⟨k, A3, c3, hk, rfl, rfl, HI⟩ := hrel
    by_cases hlt : k < n
    · have hkL : k < L.length := by rw [HN.out]; exact hlt
      have hrr := HR.out.below HI.out.b (Nat.le_refl _)
      obtain ⟨ad, A1, c1, rfl, _, had, hcell, hrow⟩ := hrr.at_ hkL
      have q1 : (k : Int) < (n : Int) := by omega
      have q0 : (0 : Int) ≤ (k : Int) := by omega
      have hin := ints_any wr _ A1 c1 _ hrow _ rfl (HL.out k)
      have htk : L.take k ++ [gl L k] = L.take (k + 1) := by rw [List.take_add_one, gl_some hkL]; rfl
      have hlk : (L.take k).length = k := List.length_take_of_le (by omega)
      generalize gl L k = row at *
      have HIN := Lib.hid hin; have HTK := Lib.hid htk; have HLK := Lib.hid hlk
      clear hrr hrow hin htk hlk hkL
      generalize row.length = rl at *
      go_wp2_with fail
      refine HIN.out.mono ?_
      rintro e w2 ⟨x, rfl, hx, hb2⟩
      obtain ⟨Ax, cx, rfl, _, _⟩ := hx.slice
      obtain ⟨ws0, h1, h2, _, _⟩ := HI.out.o
      rw [HLK.out] at h1
      have hown : w2.ownsRow w.heap.size 25 1 (.slice A3 k c3) k ws0 := (Fr.of_below hb2).own h1 (fun i hi e => by have := h2 i hi; omega)
      have hws : ∀ ws, w2.ownsRow w.heap.size 25 1 (.slice A3 k c3) (L.take k).length ws → ws = ws0 := by
        intro ws h
        rw [HLK.out] at h
        rcases Nat.eq_zero_or_pos k with h0 | h0
        · have e1 := h.1
          have e2 := hown.1
          rw [List.eq_nil_of_length_eq_zero (by omega : ws.length = 0), List.eq_nil_of_length_eq_zero (by omega : ws0.length = 0)]
        · obtain ⟨b, cc, cs, e1, _, _, _, _, hbk, _, ht⟩ := own_form h h0
          obtain ⟨b', cc', cs', e1', _, _, _, _, hbk', _, ht'⟩ := own_form hown h0
          rw [e1] at e1'
          injection e1' with e2 _ _
          injection e2 with e2
          injection e2 with e2
          subst e2
          unfold Blk at hbk hbk'
          rw [hbk] at hbk'
          injection hbk' with e3
          injection e3 with e3
          have e4 : cs = cs' := by simpa using e3
          rw [← ht, ← ht', e4]
      have HX := Lib.hid hx; have HB2 := Lib.hid hb2; have HOW := Lib.hid hown; have HWS := Lib.hid hws
      clear hx hb2 hown hws HIN h1 h2
      go_wp2_with (at_builtin; go_must (refine wpList_append_any _ rfl (.tmp 11) (.tmp 17) _ rfl w.heap.size 25 i0 _ 1 24 Try.underlying26 hi0 hz0 hz1 hz2 rfl (by decide) (.slice A3 k c3) k _ rfl (own_later HOW.out ((Below.refl _ _).alloc (Nat.le_refl _) _)) _ _ 1 1 [.slice Ax row.length cx] rfl (reads_one_sl _ _ rfl _) (by simp [Value.oneCell']) ?f1 ?f2 ?f3 ?f4))
      case f1 => unfold maxLen; omega
      case f2 => omega
      case f3 => have := HI.out.b.size; have := HB2.out.size; simp; omega
      case f4 =>
      intro v3 w3 hown3 hgr hat
      have hnx : LI w w3 v3 (L.take k ++ [row]) := HI.out.next HX.out HB2.out (fun ws h => by rw [HLK.out, HWS.out ws h]; exact hown3) hgr (by simpa using hat)
      rw [HTK.out] at hnx
      obtain ⟨A4, c4, rfl⟩ := hnx.o.form
      have hlk1 : (L.take (k + 1)).length = k + 1 := List.length_take_of_le (by rw [HN.out]; omega)
      rw [hlk1] at hnx ⊢
      have HNX := Lib.hid hnx
      clear hown3 hgr hat hnx hlk1 HOW HWS HX HB2 HI
      go_wp2_with fail
      exact ⟨⟨k + 1, A4, c4, by omega, by go_num, rfl, HNX⟩, by simp [intOf]; omega⟩
    · obtain rfl : k = n := by omega
      have ht : L.take k = L := List.take_of_length_le (by rw [HN.out]; omega)
      have hI := HI.out
      rw [ht] at hI
      have HI2 := Lib.hid hI
      clear ht hI HI
      go_wp2_with fail
      go_ret
      exact ⟨_, rfl, HI2.out.o, HI2.out.b⟩
end Go.Proofs.Ytbgigkamlnchcaa
