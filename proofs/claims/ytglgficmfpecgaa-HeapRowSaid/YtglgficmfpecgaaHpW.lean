
/-
  The document's rows of timers in memory, and its calls: Cancel, At, Keys, Digits.
-/
import Derived.Test.YtglgficmfpecgaaHpV
set_option linter.unusedVariables false
set_option linter.unusedSimpArgs false
namespace Go.Proofs.Ytglgficmfpecgaa
open Go.RowKit Plain

theorem docT_ne : (38 : TypeId) ≠ 56 ∧ (38 : TypeId) ≠ 59 := by decide
/-- v reads as the row r of the document's timers. -/
def RowT (w : World) (v : Value) (r : List Tm) : Prop := ∃ A c, v = .slice A r.length c ∧ r.length ≤ c ∧ (0 < r.length → ∃ g o cs, A = some ⟨g, o, none⟩ ∧ Blk w g 38 cs ∧ ∀ j u, (flat r)[j]? = some u → cs[o + j]? = some u)
abbrev OwnT (w : World) (base : Nat) (v : Value) (r : List Tm) : Prop := w.ownsRow base 38 2 v r.length (flat r)
section
variable {w w' : World} {B base : Nat} {v : Value} {r : List Tm}
theorem RowT.fx (h : RowT w v r) (hf : Fx B w w') : RowT w' v r := by
  obtain ⟨A, c, e, hc, h⟩ := h
  refine ⟨A, c, e, hc, fun h0 => ?_⟩
  obtain ⟨g, o, cs, e1, hb, hr⟩ := h h0
  exact ⟨g, o, cs, e1, hf.keep g cs _ hb docT_ne.1 docT_ne.2, hr⟩
theorem RowT.below (h : RowT w v r) (hf : Below B w w') (hB : w.heap.size ≤ B) : RowT w' v r := h.fx (B := 0) (Fx.of_below hf (by omega) hB)
theorem RowT.drewN (h : RowT w v r) (k : Nat) : RowT (w.drewN k) v r := h
theorem RowT.of_own (h : OwnT w base v r) : RowT w v r := by
  rcases h.2 with ⟨rfl, h0⟩ | ⟨g, cap, cur, rfl, hb, hc, h1, _, h2, h3⟩
  · exact ⟨none, 0, by rw [h0], by omega, fun h => by omega⟩
  · refine ⟨_, cap, rfl, h1, fun _ => ⟨g, 0, cur, rfl, hc, fun j u hj => ?_⟩⟩
    rw [← h3] at hj
    rw [Nat.zero_add, ← Array.getElem?_toList]
    rw [List.getElem?_take] at hj
    split at hj
    · exact hj
    · cases hj
theorem RowT.nil (w : World) : RowT w (.slice none 0 0) [] := ⟨none, 0, rfl, by simp, fun h => by simp at h⟩
theorem RowT.reads (h : RowT w v r) : ∃ A c, v = .slice A r.length c ∧ r.length ≤ c ∧ Reads w w.heap.size 2 A r.length (flat r) := by
  obtain ⟨A, c, e, hc, h⟩ := h
  refine ⟨A, c, e, hc, flat_length r, fun h0 => ?_⟩
  obtain ⟨g, o, cs, e1, hb, hr⟩ := h h0
  refine ⟨_, e1, hb.lt, fun j u hj => ?_⟩
  rw [Addr.add_lit, hb.cell]
  exact hr j u hj
theorem RowT.cells (h : RowT w v r) {i : Nat} (hi : i < r.length) : ∃ g o c, v = .slice (some ⟨g, o, none⟩) r.length c ∧ r.length ≤ c ∧ g < w.heap.size ∧ w.cell? ⟨g, o + i * 2, none⟩ = some (.int .i64 (gt r i).1) ∧ w.cell? ⟨g, o + i * 2 + 1, none⟩ = some (.int .i64 (gt r i).2) := by
  obtain ⟨A, c, e, hc, h⟩ := h
  obtain ⟨g, o, cs, e1, hb, hr⟩ := h (by omega)
  subst e1
  have h1 := flat_at r i _ (gt_some hi)
  refine ⟨g, o, c, e, hc, hb.lt, ?_, ?_⟩
  · rw [hb.cell]; exact hr _ _ h1.1
  · rw [hb.cell, Nat.add_assoc]; exact hr _ _ h1.2
theorem RowT.len (h : RowT w v r) : ∃ A c, v = .slice A r.length c ∧ r.length ≤ c := by
  obtain ⟨A, c, e, hc, h⟩ := h
  exact ⟨A, c, e, hc⟩
/-- The first n of a row are cut off. -/
theorem RowT.drop {A : Option Addr} {c n : Nat} (h : RowT w (.slice A r.length c) r) (hn : n ≤ r.length) : RowT w (.slice (if c = n then A else A.map (·.add (n * 2))) (r.length - n) (c - n)) (r.drop n) := by
  obtain ⟨A', c', e, hc, h⟩ := h
  injection e with e1 e2 e3
  subst e1 e3
  refine ⟨_, c - n, by rw [List.length_drop], by rw [List.length_drop]; omega, fun h0 => ?_⟩
  rw [List.length_drop] at h0
  obtain ⟨g, o, cs, e1, hb, hr⟩ := h (by omega)
  subst e1
  rw [if_neg (by omega)]
  refine ⟨g, o + n * 2, cs, by simp [Addr.add_lit], hb, fun j u hj => ?_⟩
  rw [flat_drop, List.getElem?_drop] at hj
  rw [Nat.add_assoc]
  exact hr _ _ hj
end
theorem cancelR_succ {r : List Tm} {k : Int} {i : Nat} (hi : i < r.length) : cancelR (r.take (i + 1)) k = if (gt r i).1 = k then cancelR (r.take i) k else cancelR (r.take i) k ++ [gt r i] := by
  have h := gt_some hi
  unfold cancelR
  rw [List.take_add_one, h, List.filter_append]
  by_cases e : (gt r i).1 = k
  · simp [e]
  · simp [e]

theorem info_doc : (Try.prog.info? 38).map (fun i => (i.zero, i.size, i.bytes)) = some (some (.agg #[.int .i64 0, .int .i64 0]), 2, 16) := by kernel_rfl
theorem OwnT.snoc {w : World} {base : Nat} {v : Value} {r : List Tm} {n : Nat} {t : Tm} (hn : r.length = n) (h : w.ownsRow base 38 2 v (n + 1) (flat r ++ [.int .i64 t.1, .int .i64 t.2])) : OwnT w base v (r ++ [t]) := by
  unfold OwnT
  rw [flat_append]
  subst hn
  simpa [flat] using h
theorem reads_tm (w : World) (t : Tm) (T : TypeId) : Reads (w.alloc (.cells #[.int .i64 t.1, .int .i64 t.2] T)) (w.heap.size + 1) 2 (some ⟨w.heap.size, 0, none⟩) 1 [.int .i64 t.1, .int .i64 t.2] :=
  ⟨rfl, fun _ => ⟨_, rfl, by simp, fun j u hj => by
      match j, hj with
      | 0, hj => simp at hj; subst hj; simp [Addr.add]
      | 1, hj => simp at hj; subst hj; simp [Addr.add]⟩⟩
section
variable {w : World} {B : Nat} {v : Value} {r : List Tm}
set_option maxRecDepth 100000 in
set_option maxHeartbeats 4000000 in
theorem cancel_r (k : Int) (hr : RowT w v r) (hs : r.length ≤ 10000) : Calls Try.prog 25 #[v, .int .i64 k] w fun e w' => ∃ v', e = .returned (.tuple #[v', .bool (hasR r k)]) ∧ OwnT w' w.heap.size v' (cancelR r k) ∧ Below w.heap.size w w' := by
  obtain ⟨i0, hi0, hz0, hz1, hz2⟩ := info_parts info_doc
  obtain ⟨A, c, rfl, hlc⟩ := hr.len
  have HR := Lib.hid hr
  obtain ⟨len, hlen⟩ : ∃ len, r.length = len := ⟨_, rfl⟩
  have HLEN := Lib.hid hlen
  rw [hlen] at hlc hs ⊢
  clear hr hlen
  go_enter Try.func25, Try.ntmps25
  go_wp2_with fail
  go_loopw [6, 7] (fun s6 s7 wr => ∃ i : Nat, i ≤ len ∧ s7 = .int .i64 (i : Int) ∧ Hid (OwnT wr w.heap.size s6 (cancelR (r.take i) k)) ∧ Hid (Below w.heap.size w wr)) (fun _ s7 _ => len - (intOf s7).toNat)
  case atStart => exact ⟨0, by omega, rfl, Lib.hid (World.ownsRow_nil w w.heap.size 38 2), Lib.hid (Below.refl _ _)⟩
  case round =>
    obtain ⟨i, hi, rfl, ho, hb⟩ := hrel
    have hrw := HR.out.below hb.out (Nat.le_refl _)
    by_cases hlt : i < len
    · obtain ⟨g, o, c', hv, _, hg, c0, c1⟩ := hrw.cells (show i < r.length by rw [HLEN.out]; exact hlt)
      injection hv with v1 v2 v3
      subst v1 v3
      have hsu := cancelR_succ (k := k) (show i < r.length by rw [HLEN.out]; exact hlt)
      obtain ⟨t, ht⟩ : ∃ t, t = gt r i := ⟨_, rfl⟩
      rw [← ht] at c0 c1 hsu
      obtain ⟨t1, t2⟩ := t
      have hlt' : (i : Int) < (len : Int) := by omega
      by_cases hk : t1 = k
      · rw [if_pos hk] at hsu
        have HSU := Lib.hid hsu
        clear hrw hsu ht
        subst hk
        go_wp2_with fail
        refine ⟨⟨i + 1, by omega, by go_num, by rw [HSU.out]; exact ho, hb⟩, by simp [intOf]; omega⟩
      · rw [if_neg hk] at hsu
        have HSU := Lib.hid hsu
        obtain ⟨L, hL⟩ : ∃ L, L = cancelR (r.take i) k := ⟨_, rfl⟩
        rw [← hL] at hsu
        have ho2 := ho.out
        rw [← hL] at ho2
        have hLl : L.length ≤ 10000 := by
          rw [hL]
          have := cancelR_len (r.take i) k
          simp at this
          omega
        obtain ⟨A6, c6, rfl, hc6⟩ := (RowT.of_own ho2).len
        obtain ⟨m, hm⟩ : ∃ m, L.length = m := ⟨_, rfl⟩
        have ho3 : wr.ownsRow w.heap.size 38 2 (.slice A6 m c6) m (flat L) := by have := ho2; unfold OwnT at this; rw [hm] at this; exact this
        have hro : (wr.alloc (.cells #[.int .i64 t1, .int .i64 t2] 38)).ownsRow w.heap.size 38 2 (.slice A6 m c6) m (flat L) := ((Fr.refl (fun _ => False) wr).alloc _).own ho3 (fun _ _ h => h)
        have h1c : ∀ u ∈ [(Value.int .i64 t1), .int .i64 t2], u.oneCell' = true := by simp [Value.oneCell']
        have hb1 : m + 1 ≤ maxLen := by unfold maxLen; omega
        have hb2 : (m + 1) * 16 ≤ 140737488355328 := by omega
        have hb3 : w.heap.size ≤ (wr.alloc (.cells #[.int .i64 t1, .int .i64 t2] 38)).heap.size := by have := hb.out.size; simp; omega
        rw [hm] at hc6 ⊢
        have HRO := Lib.hid hro; have HRD := Lib.hid (reads_tm wr (t1, t2) 38); have H1C := Lib.hid h1c; have HB1 := Lib.hid hb1; have HB2 := Lib.hid hb2; have HB3 := Lib.hid hb3; have HM := Lib.hid hm
        clear hrw hsu ht ho ho2 ho3 hro h1c hb1 hb2 hb3 hLl hm
        have HLL := Lib.hid hL
        clear hL
        go_wp2_with (at_builtin; go_must (refine wpList_append_any _ rfl (.tmp 21) (.tmp 26) _ rfl w.heap.size 38 i0 _ 2 16 Try.underlying25 hi0 hz0 hz1 hz2 rfl (by omega) _ m (flat L) rfl HRO.out (wr.heap.size + 1) (some ⟨wr.heap.size, 0, none⟩) 1 1 _ rfl HRD.out H1C.out HB1.out HB2.out HB3.out ?_))
        intro v' w1 hr1 hg1 hv1
        have hbb : Below w.heap.size w w1 := (hb.out.alloc hb.out.size _).grown hg1 (Nat.le_trans hb.out.size (by simp)) (own_base HRO.out)
        have hoo : OwnT w1 w.heap.size v' (cancelR (r.take (i + 1)) k) := by rw [HSU.out, ← HLL.out]; exact OwnT.snoc HM.out hr1
        have HBB := Lib.hid hbb; have HOO := Lib.hid hoo
        clear hr1 hg1 hv1 hbb hoo HRO HRD
        go_wp2_with fail
        exact ⟨⟨i + 1, by omega, by go_num, HOO, HBB⟩, by simp [intOf]; omega⟩
    · have hie : i = len := by omega
      subst hie
      have hta : r.take i = r := List.take_of_length_le (by rw [HLEN.out]; exact Nat.le_refl _)
      have ho2 := ho.out
      rw [hta] at ho2
      obtain ⟨A6, c6, rfl, hc6⟩ := (RowT.of_own ho2).len
      have hdec := cancelR_lt r k
      obtain ⟨m, hm⟩ : ∃ m, (cancelR r k).length = m := ⟨_, rfl⟩
      rw [HLEN.out, hm] at hdec
      have HD := Lib.hid hdec; have HO2 := Lib.hid ho2; have HM := Lib.hid hm
      rw [hm] at hc6 ⊢
      clear hrw hta ho ho2 hdec hm
      go_wp2_with fail
      go_ret2
      refine ⟨_, ?_, HO2.out, hb.out⟩
      rw [HM.out]
      exact congrArg (fun b => Ending.returned (.tuple #[.slice A6 m c6, .bool b])) HD.out

theorem atR_miss {r : List Tm} {k : Int} (h : ∀ i, i < r.length → (gt r i).1 ≠ k) : atR r k = (0, false) := by
  unfold atR
  rw [List.find?_eq_none.2 (fun x hx => by
    obtain ⟨i, hi, e⟩ := List.getElem_of_mem hx
    have := h i hi
    rw [gt_of (List.getElem?_eq_getElem hi), e] at this
    simpa using this)]
theorem atR_hit {r : List Tm} {k : Int} {i : Nat} (hi : i < r.length) (h : ∀ j, j < i → (gt r j).1 ≠ k) (e : (gt r i).1 = k) : atR r k = ((gt r i).2, true) := by
  unfold atR
  have : (r.find? fun t => t.1 == k) = some (gt r i) := by
    rw [List.find?_eq_some_iff_getElem]
    have hg := gt_some hi
    rw [List.getElem?_eq_getElem hi] at hg
    injection hg with hg
    refine ⟨by simpa using e, i, hi, hg, fun j hj => ?_⟩
    have h1 := h j hj
    rw [gt_of (List.getElem?_eq_getElem (by omega))] at h1
    simpa using h1
  rw [this]
set_option maxRecDepth 100000 in
set_option maxHeartbeats 4000000 in
theorem at_r (k : Int) (hr : RowT w v r) (hs : r.length ≤ 10000) : Calls Try.prog 23 #[v, .int .i64 k] w fun e w' => e = .returned (.tuple #[.int .i64 (atR r k).1, .bool (atR r k).2]) ∧ w = w' := by
  obtain ⟨A, c, rfl, hlc⟩ := hr.len
  have HR := Lib.hid hr
  obtain ⟨len, hlen⟩ : ∃ len, r.length = len := ⟨_, rfl⟩
  have HLEN := Lib.hid hlen
  rw [hlen] at hlc hs ⊢
  obtain ⟨p, q, hpq⟩ : ∃ p q, atR r k = (p, q) := ⟨_, _, rfl⟩
  have HPQ := Lib.hid hpq
  rw [hpq]
  simp only
  clear hr hlen hpq
  go_enter Try.func23, Try.ntmps23
  go_wp2_with fail
  go_loopw [6] (fun s wr => ∃ i : Nat, i ≤ len ∧ s = .int .i64 (i : Int) ∧ wr = w ∧ Hid (∀ j, j < i → (gt r j).1 ≠ k)) (fun s _ => len - (intOf s).toNat)
  case atStart => exact ⟨0, by omega, rfl, rfl, Lib.hid (fun j hj => absurd hj (by omega))⟩
  case round =>
    obtain ⟨i, hi, rfl, rfl, hm⟩ := hrel
    by_cases hlt : i < len
    · obtain ⟨g, o, c', hv, _, hg, c0, c1⟩ := HR.out.cells (show i < r.length by rw [HLEN.out]; exact hlt)
      injection hv with v1 v2 v3
      subst v1 v3
      obtain ⟨t, ht⟩ : ∃ t, t = gt r i := ⟨_, rfl⟩
      rw [← ht] at c0 c1
      obtain ⟨t1, t2⟩ := t
      have HT := Lib.hid ht
      have hlt' : (i : Int) < (len : Int) := by omega
      clear ht
      by_cases hk : t1 = k
      · subst hk
        go_wp2_with fail
        go_ret2
        have h2 := atR_hit (by rw [HLEN.out]; exact hlt) hm.out (by rw [← HT.out])
        rw [HPQ.out, ← HT.out] at h2
        injection h2 with h3 h4
        subst h3 h4
        exact ⟨rfl, rfl⟩
      · go_wp2_with fail
        refine ⟨⟨i + 1, by omega, by go_num, by simp, Lib.hid (fun j hj => ?_)⟩, by simp [intOf]; omega⟩
        by_cases e : j = i
        · subst e
          rw [← HT.out]
          exact hk
        · exact hm.out j (by omega)
    · have hie : i = len := by omega
      subst hie
      have h2 := atR_miss (r := r) (k := k) (fun j hj => hm.out j (by rw [HLEN.out] at hj; exact hj))
      rw [HPQ.out] at h2
      injection h2 with h3 h4
      subst h3 h4
      go_wp2_with fail
      go_ret2
      exact ⟨rfl, rfl⟩
set_option maxRecDepth 100000 in
set_option maxHeartbeats 4000000 in
theorem keys_r (hr : RowT w v r) (hs : r.length ≤ 10000) : Calls Try.prog 13 #[v] w fun e w' => ∃ v', e = .returned v' ∧ OwnI w' w.heap.size v' (r.map (·.1)) ∧ Below w.heap.size w w' := by
  obtain ⟨i0, hi0, hz0, hz1, hz2⟩ := info_parts info_int
  obtain ⟨A, c, rfl, hlc⟩ := hr.len
  have HR := Lib.hid hr
  obtain ⟨len, hlen⟩ : ∃ len, r.length = len := ⟨_, rfl⟩
  have HLEN := Lib.hid hlen
  rw [hlen] at hlc hs ⊢
  clear hr hlen
  go_enter Try.func13, Try.ntmps13
  go_wp2_with fail
  go_loopw [3, 4] (fun s3 s4 wr => ∃ (i : Nat) (A3 : Option Addr) (c3 : Nat) (L : List Int), i ≤ len ∧ s4 = .int .i64 (i : Int) ∧ s3 = .slice A3 i c3 ∧ i ≤ c3 ∧ Hid (L = (r.take i).map (·.1)) ∧ Hid (wr.ownsRow w.heap.size 3 1 s3 i (L.map EnI)) ∧ Hid (Below w.heap.size w wr)) (fun _ s4 _ => len - (intOf s4).toNat)
  case atStart => exact ⟨0, none, 0, [], by omega, rfl, rfl, by omega, Lib.hid (by simp), Lib.hid (World.ownsRow_nil _ _ _ _), Lib.hid (Below.refl _ _)⟩
  case round =>
    obtain ⟨i, A3, c3, L, hi, rfl, rfl, hc3, hL, ho, hb⟩ := hrel
    have hrw := HR.out.below hb.out (Nat.le_refl _)
    by_cases hlt : i < len
    · obtain ⟨g, o, c', hv, _, hg, c0, c1⟩ := hrw.cells (show i < r.length by rw [HLEN.out]; exact hlt)
      injection hv with v1 v2 v3
      subst v1 v3
      obtain ⟨x, hx⟩ : ∃ t, t = (gt r i).1 := ⟨_, rfl⟩
      rw [← hx] at c0
      have HX := Lib.hid hx
      have hlt' : (i : Int) < (len : Int) := by omega
      have hro : (wr.alloc (.cells #[.int .i64 x] 3)).ownsRow w.heap.size 3 1 (.slice A3 i c3) i (L.map EnI) := ((Fr.refl (fun _ => False) wr).alloc _).own ho.out (fun _ _ h => h)
      have h1c : ∀ u ∈ [(Value.int .i64 x)], u.oneCell' = true := by simp [Value.oneCell']
      have hb1 : i + 1 ≤ maxLen := by unfold maxLen; omega
      have hb2 : (i + 1) * 8 ≤ 140737488355328 := by omega
      have hb3 : w.heap.size ≤ (wr.alloc (.cells #[.int .i64 x] 3)).heap.size := by have := hb.out.size; simp; omega
      have HRO := Lib.hid hro; have HRD := Lib.hid (reads_one_int wr x 3); have H1C := Lib.hid h1c; have HB1 := Lib.hid hb1; have HB2 := Lib.hid hb2; have HB3 := Lib.hid hb3
      clear hrw hx c1 hro h1c hb1 hb2 hb3
      go_wp2_with (at_builtin; go_must (refine wpList_append_any _ rfl (.tmp 11) (.tmp 17) _ rfl w.heap.size 3 i0 _ 1 8 Try.underlying32 hi0 hz0 hz1 hz2 rfl (by omega) _ i (L.map EnI) rfl HRO.out (wr.heap.size + 1) (some ⟨wr.heap.size, 0, none⟩) 1 1 _ rfl HRD.out H1C.out HB1.out HB2.out HB3.out ?_))
      intro v' w1 hr1 hg1 hv1
      have hbb : Below w.heap.size w w1 := (hb.out.alloc hb.out.size _).grown hg1 (Nat.le_trans hb.out.size (by simp)) (own_base HRO.out)
      have hL2 : L ++ [x] = (r.take (i + 1)).map (·.1) := by
        rw [List.take_add_one, gt_some (show i < r.length by rw [HLEN.out]; exact hlt), hL.out, HX.out]
        simp
      have hr2 : w1.ownsRow w.heap.size 3 1 v' (i + 1) ((L ++ [x]).map EnI) := by simpa using hr1
      have hsh : ∃ A' c', v' = .slice A' (i + 1) c' ∧ i + 1 ≤ c' := by
        rcases hr2.2 with ⟨_, h0⟩ | ⟨g', cap, cur, e, _, _, hcap, _⟩
        · omega
        · exact ⟨_, cap, e, hcap⟩
      obtain ⟨A', c', rfl, hc'⟩ := hsh
      have HBB := Lib.hid hbb; have HR2 := Lib.hid hr2; have HL2 := Lib.hid hL2
      clear hr1 hg1 hv1 hbb hr2 hL2 HRO HRD
      go_wp2_with fail
      exact ⟨⟨i + 1, A', c', L ++ [x], by omega, by go_num, rfl, hc', HL2, HR2, HBB⟩, by simp [intOf]; omega⟩
    · have hie : i = len := by omega
      subst hie
      clear hrw
      go_wp2_with fail
      go_ret
      refine ⟨_, rfl, ?_, hb.out⟩
      have hta : r.take i = r := List.take_of_length_le (by rw [HLEN.out]; exact Nat.le_refl _)
      have h3 := hL.out
      rw [hta] at h3
      have h4 := ho.out
      rw [h3] at h4
      unfold OwnI
      rw [show (r.map (·.1)).length = i by rw [List.length_map]; exact HLEN.out]
      exact h4
set_option maxHeartbeats 4000000 in
theorem digits_r (n : Nat) (w : World) (hn : n ≤ 1000000) : Calls Try.prog 18 #[.int .i64 (n : Int)] w fun e w' => e = .returned (.int .i64 (digV n : Int)) ∧ w = w' := by
  have hlog : ∀ m, m ≤ 1000000 → digV m ≤ m := fun m _ => by
    induction m using Nat.strongRecOn with
    | _ m ih =>
      by_cases h0 : m = 0
      · subst h0
        rw [digV]
        simp
      · rw [digV, dif_neg h0]
        have := ih (m / 2) (by omega) (by omega)
        omega
  have hd := hlog n hn
  obtain ⟨D, hD⟩ : ∃ D, digV n = D := ⟨_, rfl⟩
  have HD := Lib.hid hD
  rw [hD] at hd ⊢
  clear hlog hD
  go_enter Try.func18, Try.ntmps18
  go_wp2_with fail
  go_loopw [0, 3] (fun s0 s3 wr => ∃ (m k : Nat), m ≤ 1000000 ∧ k ≤ D ∧ s0 = .int .i64 (m : Int) ∧ s3 = .int .i64 (k : Int) ∧ wr = w ∧ Hid (k + digV m = D)) (fun s0 _ _ => (intOf s0).toNat)
  case atStart => exact ⟨n, 0, hn, by omega, rfl, rfl, rfl, Lib.hid (by rw [HD.out]; omega)⟩
  case round =>
    obtain ⟨m, k, hm, hk, rfl, rfl, rfl, hkm⟩ := hrel
    by_cases h0 : 0 < m
    · have hdm : digV m = digV (m / 2) + 1 := by rw [digV, dif_neg (by omega)]
      have h3 := hkm.out
      rw [hdm] at h3
      have H3 := Lib.hid h3
      have hk1 : k + 1 ≤ D := by omega
      have hw1 : IntKind.i64.wrap ((k : Int) + 1) = (k : Int) + 1 := IntWalk.i64_in _ (by omega)
      clear h3 hdm
      go_wp2_with fail
      refine ⟨⟨m / 2, k + 1, by omega, hk1, ?_, by go_num, by simp, Lib.hid (by have := H3.out; omega)⟩, ?_⟩
      · go_num
      · simp [intOf]
        omega
    · have hm0 : m = 0 := by omega
      subst hm0
      have h3 := hkm.out
      rw [digV] at h3
      simp at h3
      subst h3
      go_wp2_with fail
      go_ret
      exact ⟨rfl, rfl⟩
end
end Go.Proofs.Ytglgficmfpecgaa
