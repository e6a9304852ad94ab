
/-
  The document's pool in memory; and, is, with, New, Put.
-/
import Derived.Test.YtipflplilkecjaaRgDoc
import Derived.Test.YtipflplilkecjaaDqAll
import Derived.Deep.DeepCutAuto
set_option linter.unusedVariables false
set_option linter.unusedSimpArgs false
namespace Go.Proofs.Ytipflplilkecjaa
open Go.RowKit Plain

theorem info_sl : (Try.prog.info? 26).map (fun i => (i.zero, i.size, i.bytes)) = some (some (.slice none 0 0), 1, 24) := by kernel_rfl
theorem size_P7 : (Try.prog.info? 28).map (·.size) = some 3 := by kernel_rfl
/-- The document's pool: its deques' rows, its queue's row, in blocks of E. -/
structure DocP (w : World) (E : Nat → Prop) (lA : Option Addr) (lc : Nat) (gA : Option Addr) (gc : Nat) (L : List (List Int)) (Q : List Int) : Prop where
  le : L.length ≤ lc
  rows : 0 < L.length → ∃ ad, lA = some ad ∧ E ad.block ∧ ad.block < w.heap.size ∧ ∀ (i : Nat) (l : List Int), L[i]? = some l → ∃ A c, w.cell? (ad.add i) = some (.slice A l.length c) ∧ RX w E A c l
  glob : RX w E gA gc Q
abbrev DocV (room : Nat) (lA : Option Addr) (N lc : Nat) (gA : Option Addr) (M gc : Nat) : Array Value := #[.int .i64 (room : Int), .slice lA N lc, .slice gA M gc]
section
variable {w w' : World} {E E' S : Nat → Prop} {lA gA : Option Addr} {lc gc : Nat} {L : List (List Int)} {Q : List Int}
theorem DocP.fr (h : DocP w E lA lc gA gc L Q) (hf : Fr S w w') (hS : ∀ i, E i → i < w.heap.size → ¬ S i) : DocP w' E lA lc gA gc L Q :=
  ⟨h.le, fun hn => by
    obtain ⟨ad, e, hd, hb, hc⟩ := h.rows hn
    refine ⟨ad, e, hd, Nat.lt_of_lt_of_le hb hf.size, fun i l hi => ?_⟩
    obtain ⟨A, c, h1, h2⟩ := hc i l hi
    exact ⟨A, c, (hf.cell (p := ad.add i) (by rw [block_of_add]; exact hb) (by rw [block_of_add]; exact hS _ hd hb)).trans h1, h2.fr hf hS⟩, h.glob.fr hf hS⟩
theorem DocP.mono (h : DocP w E lA lc gA gc L Q) (hm : ∀ i, E i → i < w.heap.size → E' i) : DocP w E' lA lc gA gc L Q :=
  ⟨h.le, fun hn => by
    obtain ⟨ad, e, hd, hb, hc⟩ := h.rows hn
    refine ⟨ad, e, hm _ hd hb, hb, fun i l hi => ?_⟩
    obtain ⟨A, c, h1, h2⟩ := hc i l hi
    exact ⟨A, c, h1, h2.mono hm⟩, h.glob.mono hm⟩
theorem DocP.below {B : Nat} (h : DocP w E lA lc gA gc L Q) (hb : Below B w w') (hB : w.heap.size ≤ B) : DocP w' E lA lc gA gc L Q := h.fr (Fr.of_below hb) (fun i _ hi h => by omega)
theorem DocP.alloc (h : DocP w E lA lc gA gc L Q) (o : Obj) : DocP (w.alloc o) E lA lc gA gc L Q := h.fr ((Fr.refl (fun _ => False) w).alloc o) (fun _ _ _ h => h)
/-- The i-th row. -/
theorem DocP.at_ (h : DocP w E lA lc gA gc L Q) {i : Nat} {l : List Int} (hi : L[i]? = some l) : ∃ ad A c, lA = some ad ∧ ad.block < w.heap.size ∧ w.cell? (ad.add i) = some (.slice A l.length c) ∧ RX w E A c l := by
  obtain ⟨ad, e, hd, hb, hc⟩ := h.rows (by have := (List.getElem?_eq_some_iff.1 hi).1; omega)
  obtain ⟨A, c, h1, h2⟩ := hc i l hi
  exact ⟨ad, A, c, e, hb, h1, h2⟩
/-- All rows' cells. -/
theorem DocP.vals (h : DocP w E lA lc gA gc L Q) : ∃ vs : List Value, vs.length = L.length ∧ Reads w w.heap.size 1 lA L.length vs ∧ (∀ u ∈ vs, u.oneCell' = true) ∧ ∀ (i : Nat) (l : List Int), L[i]? = some l → ∃ A c, vs[i]? = some (.slice A l.length c) ∧ RX w E A c l := by
  rcases Nat.eq_zero_or_pos L.length with h0 | h0
  · refine ⟨[], by rw [h0]; rfl, ?_, by simp, fun i l hi => by have := (List.getElem?_eq_some_iff.1 hi).1; omega⟩
    rw [h0]
    exact Reads.none_
  · obtain ⟨ad, e, hd, hb, hc⟩ := h.rows h0
    have key : ∀ n, n ≤ L.length → ∃ vs : List Value, vs.length = n ∧ (∀ u ∈ vs, u.oneCell' = true) ∧ (∀ (i : Nat) (u : Value), vs[i]? = some u → w.cell? (ad.add i) = some u) ∧ ∀ (i : Nat) (l : List Int), i < n → L[i]? = some l → ∃ A c, vs[i]? = some (.slice A l.length c) ∧ RX w E A c l := by
      intro n
      induction n with
      | zero => intro _; exact ⟨[], rfl, by simp, by simp, fun i l hi => by omega⟩
      | succ n ih =>
        intro hn
        obtain ⟨vs, h1, h2, h3, h4⟩ := ih (by omega)
        have hx : L[n]? = some L[n] := List.getElem?_eq_getElem (by omega)
        obtain ⟨A, c, g1, g2⟩ := hc n _ hx
        refine ⟨vs ++ [.slice A (L[n]).length c], by simp [h1], fun u hu => ?_, fun i u hi => ?_, fun i l hi hl => ?_⟩
        · rw [List.mem_append] at hu
          rcases hu with hu | hu
          · exact h2 u hu
          · simp at hu; subst hu; rfl
        · rcases Nat.lt_or_ge i n with h | h
          · rw [List.getElem?_append_left (by omega)] at hi
            exact h3 i u hi
          · rw [List.getElem?_append_right (by omega)] at hi
            have hin : i = n := by
              have := (List.getElem?_eq_some_iff.1 hi).1
              simp at this
              omega
            subst hin
            simp [h1] at hi
            subst hi
            exact g1
        · rcases Nat.lt_or_ge i n with h | h
          · rw [List.getElem?_append_left (by omega)]
            exact h4 i l h hl
          · obtain rfl : i = n := by omega
            rw [hx] at hl
            injection hl with hl
            subst hl
            exact ⟨A, c, by rw [List.getElem?_append_right (by omega)]; simp [h1], g2⟩
    obtain ⟨vs, h1, h2, h3, h4⟩ := key L.length (Nat.le_refl _)
    exact ⟨vs, h1, ⟨by rw [h1]; simp, fun _ => ⟨ad, e, hb, h3⟩⟩, h2, fun i l hi => h4 i l (List.getElem?_eq_some_iff.1 hi).1 hi⟩
end

set_option maxHeartbeats 1000000 in
theorem and_any (A : Option Addr) (c : Nat) (l : List Int) (x : Int) (w : World) (B : Nat) (hR : Reads w B 1 A l.length (l.map EnI)) (hB : B ≤ w.heap.size) (hl : l.length ≤ 1000000) :
    Calls Try.prog 48 #[.slice A l.length c, .int .i64 x] w fun e w' => ∃ v, e = .returned v ∧ OwnI w' w.heap.size v (l ++ [x]) ∧ Below w.heap.size w w' := by
  obtain ⟨i0, hi0, hz0, hz1, hz2⟩ := info_parts info_int
  have HR := Lib.hid hR
  obtain ⟨n, hn⟩ : ∃ n, n = l.length := ⟨_, rfl⟩
  rw [← hn] at HR ⊢
  have HN := Lib.hid hn
  have hl2 : n ≤ 1000000 := by omega
  clear hR hn hl
  go_enter Try.func48, Try.ntmps48
  go_wp2_with (at_builtin; go_must (refine wpList_append_any _ rfl (.tmp 6) (.tmp 7) _ rfl w.heap.size 3 i0 _ 1 8 Try.underlying26 hi0 hz0 hz1 hz2 rfl (by decide) (.slice none 0 0) 0 [] rfl (World.ownsRow_nil _ _ _ _) _ _ n c (l.map EnI) rfl HR.out (all_int l) ?f1 ?f2 ?f3 ?f4))
  case f1 => unfold maxLen; omega
  case f2 => omega
  case f3 => simp
  case f4 =>
  intro v5 w6 hown hgr hat
  have hown2 : OwnI w6 w.heap.size v5 l := by
    unfold OwnI
    rw [← HN.out]
    simpa using hown
  have hbl : Below w.heap.size w w6 := (Below.refl _ w).grown hgr (Nat.le_refl _) (by simp [Value.ownBlock])
  have hz := hbl.size
  have HO := Lib.hid hown2; have HBL := Lib.hid hbl
  clear hown hgr hat hown2 hbl
  go_wp2_with (at_builtin; go_must (refine wpList_append_any _ rfl (.tmp 9) (.tmp 11) _ rfl w.heap.size 3 i0 _ 1 8 Try.underlying26 hi0 hz0 hz1 hz2 rfl (by decide) v5 l.length (l.map EnI) rfl (HO.out.alloc _) _ _ 1 1 [.int .i64 x] rfl (reads_one_int _ x _) (by simp [Value.oneCell']) ?f1 ?f2 ?f3 ?f4))
  case f1 => have := HN.out; unfold maxLen; omega
  case f2 => have := HN.out; omega
  case f3 => simp; omega
  case f4 =>
  intro v7 w8 hown hgr hat
  have hown2 : OwnI w8 w.heap.size v7 (l ++ [x]) := OwnI.snoc hown
  have hbl : Below w.heap.size w w8 := (HBL.out.alloc hz _).grown hgr (by simp; omega) (fun r hr => (HO.out.lt r hr).1)
  have HO2 := Lib.hid hown2; have HBL2 := Lib.hid hbl
  clear hown hgr hat hown2 hbl
  go_wp2_with fail
  go_ret
  exact ⟨_, rfl, HO2.out, HBL2.out⟩

section
variable (room : Nat) (lA gA : Option Addr) (lc gc : Nat) (L : List (List Int)) (Q : List Int) (w : World)
set_option maxHeartbeats 1000000 in
theorem is_any (N M : Nat) (i : Int) : Calls Try.prog 46 #[.agg (DocV room lA N lc gA M gc), .int .i64 i] w fun e w' => e = .returned (.bool (decide (0 ≤ i ∧ i < (N : Int)))) ∧ Below w.heap.size w w' := by
  by_cases h0 : i ≥ 0
  · by_cases h1 : i < (N : Int)
    · rw [show decide (0 ≤ i ∧ i < (N : Int)) = true from decide_eq_true ⟨h0, h1⟩]
      go_enter Try.func46, Try.ntmps46
      go_wp2_with fail
      go_ret
      exact ⟨rfl, (Below.refl _ w).alloc (Nat.le_refl _) _⟩
    · rw [show decide (0 ≤ i ∧ i < (N : Int)) = false from decide_eq_false (fun e => h1 e.2)]
      go_enter Try.func46, Try.ntmps46
      go_wp2_with fail
      go_ret
      exact ⟨rfl, (Below.refl _ w).alloc (Nat.le_refl _) _⟩
  · rw [show decide (0 ≤ i ∧ i < (N : Int)) = false from decide_eq_false (fun e => h0 e.1)]
    go_enter Try.func46, Try.ntmps46
    go_wp2_with fail
    go_ret
    exact ⟨rfl, (Below.refl _ w).alloc (Nat.le_refl _) _⟩

theorem Blk.set3 {w : World} {g : Nat} {t : TypeId} {x0 x1 x2 : Value} (h : Blk w g t #[x0, x1, x2]) (a b c : Value) : Blk (((w.setCell ⟨g, 0, none⟩ a).setCell ⟨g, 1, none⟩ b).setCell ⟨g, 2, none⟩ c) g t #[a, b, c] := by
  have := ((h.set_ 0 a).set_ 1 b).set_ 2 c
  simpa using this
theorem Blk.far3 {w : World} {g k : Nat} {t : TypeId} {cs : Array Value} (h : Blk w k t cs) (hk : k ≠ g) (a b c : Value) : Blk (((w.setCell ⟨g, 0, none⟩ a).setCell ⟨g, 1, none⟩ b).setCell ⟨g, 2, none⟩ c) k t cs :=
  ((h.far (p := ⟨g, 0, none⟩) hk a).far (p := ⟨g, 1, none⟩) hk b).far (p := ⟨g, 2, none⟩) hk c
theorem Fr.set3 {S : Nat → Prop} {a w : World} {g : Nat} (h : Fr S a w) (hp : S g ∨ a.heap.size ≤ g) (x y z : Value) : Fr S a (((w.setCell ⟨g, 0, none⟩ x).setCell ⟨g, 1, none⟩ y).setCell ⟨g, 2, none⟩ z) :=
  ((h.setCell (p := ⟨g, 0, none⟩) hp x).setCell (p := ⟨g, 1, none⟩) hp y).setCell (p := ⟨g, 2, none⟩) hp z
theorem blk_of_own {w : World} {base n : Nat} {e : TypeId} {v : Value} {xs : List Value} (h : w.ownsRow base e 1 v n xs) (hn : 1 ≤ n) : ∃ b c, ∃ cs : List Value, v = .slice (some ⟨b, 0, none⟩) n c ∧ n ≤ c ∧ base ≤ b ∧ Blk w b e cs.toArray ∧ (∀ (j : Nat) (u : Value), xs[j]? = some u → cs[j]? = some u) ∧ n ≤ cs.length := by
  have hl := h.1
  rcases h.2 with ⟨_, h0⟩ | ⟨g', cap, cur, rfl, hb, hh, hnc, hcm, hcs, ht⟩
  · omega
  · refine ⟨g', cap, cur.toList, rfl, hnc, hb, by simpa [Blk] using hh, fun j u hj => ?_, by simp; omega⟩
    have hjl := (List.getElem?_eq_some_iff.1 hj).1
    rw [← ht, List.getElem?_take_of_lt (by omega)] at hj
    exact hj
set_option maxRecDepth 100000 in
set_option maxHeartbeats 2000000 in
theorem with_any (i : Nat) (l : List Int) (A : Option Addr) (c n : Nat) (E : Nat → Prop) (h : DocP w E lA lc gA gc L Q) (hi : i < L.length) (hl : RX w E A c l) (hn : l.length = n) (N M : Nat) (hN : L.length = N) (hL : N ≤ 64) :
    Calls Try.prog 47 #[.agg (DocV room lA N lc gA M gc), .int .i64 (i : Int), .slice A n c] w fun e w' => ∃ lA' lc', e = .returned (.agg (DocV room lA' N lc' gA M gc)) ∧ DocP w' (fun k => E k ∨ w.heap.size ≤ k) lA' lc' gA gc (L.set i l) Q ∧ Below w.heap.size w w' := by
  obtain ⟨i0, hi0, hz0, hz1, hz2⟩ := info_parts info_sl
  obtain ⟨vs, hv1, hv2, hv3, hv4⟩ := h.vals
  rw [hN] at hv1 hv2 hi
  have H := Lib.hid h; have HL := Lib.hid hl; have HNN := Lib.hid hN; have HV1 := Lib.hid hv1; have HV2 := Lib.hid hv2; have HV3 := Lib.hid hv3; have HV4 := Lib.hid hv4
  have HNL := Lib.hid hn
  have hiN : (i : Int) < (N : Int) := by omega
  have hi0' : (0 : Int) ≤ (i : Int) := by omega
  clear h hl hN hv1 hv2 hv3 hv4 hn
  go_enter Try.func47, Try.ntmps47
  go_wp2_with (at_builtin; go_must (refine wpList_append_any _ rfl (.tmp 8) (.tmp 10) _ rfl (w.heap.size + 1 + 1) 26 i0 _ 1 24 Try.underlying25 hi0 hz0 hz1 hz2 rfl (by decide) (.slice none 0 0) 0 [] rfl (World.ownsRow_nil _ _ _ _) _ _ N lc vs rfl ((HV2.out.alloc (Nat.le_refl _) _).alloc (by simp) _) HV3.out ?f1 ?f2 ?f3 ?f4))
  case f1 => unfold maxLen; omega
  case f2 => omega
  case f3 => simp
  case f4 =>
  intro v5 w6 hown hgr hat
  have hown2 : w6.ownsRow (w.heap.size + 1 + 1) 26 1 v5 N vs := by simpa using hown
  have hb1 := ((Blk.new w 28 (DocV room lA N lc gA M gc)).alloc (.cells #[.int .i64 0, .slice none 0 0, .slice none 0 0] 28)).grown hgr (by simp [Value.ownBlock])
  have hb2 : Blk w6 (w.heap.size + 1) 28 #[.int .i64 0, .slice none 0 0, .slice none 0 0] := by
    have := (Blk.new (w.alloc (.cells (DocV room lA N lc gA M gc) 28)) 28 #[.int .i64 0, .slice none 0 0, .slice none 0 0]).grown hgr (by simp [Value.ownBlock])
    simpa using this
  have hbel : Below w.heap.size w w6 := (((Below.refl _ w).alloc (Nat.le_refl _) _).alloc (by simp) _).grown hgr (by simp; omega) (by simp [Value.ownBlock])
  obtain ⟨b, cc, cs, rfl, hcc, hbb, hbk, hcs, hcl⟩ := blk_of_own hown2 (by omega)
  have cb : ∃ u, w6.cell? ⟨b, i, none⟩ = some u := ⟨cs[i]'(by omega), by rw [hbk.cell, List.getElem?_toArray]; exact List.getElem?_eq_getElem _⟩
  obtain ⟨u0, cb⟩ := cb
  have zb : w6.frozen? ⟨b, i, none⟩ = false := hbk.frozen i
  have x0 : w6.cell? ⟨w.heap.size, 0, none⟩ = some (.int .i64 (room : Int)) := (hb1.cell 0).trans rfl
  have x1 : w6.cell? ⟨w.heap.size, 1, none⟩ = some (.slice lA N lc) := (hb1.cell 1).trans rfl
  have x2 : w6.cell? ⟨w.heap.size, 2, none⟩ = some (.slice gA M gc) := (hb1.cell 2).trans rfl
  have xz : w6.frozen? ⟨w.heap.size, 1, none⟩ = false := hb1.frozen 1
  have y0 : w6.cell? ⟨w.heap.size + 1, 0, none⟩ = some (.int .i64 0) := (hb2.cell 0).trans rfl
  have y1 : w6.cell? ⟨w.heap.size + 1, 1, none⟩ = some (.slice none 0 0) := (hb2.cell 1).trans rfl
  have y2 : w6.cell? ⟨w.heap.size + 1, 2, none⟩ = some (.slice none 0 0) := (hb2.cell 2).trans rfl
  have yz0 : w6.frozen? ⟨w.heap.size + 1, 0, none⟩ = false := hb2.frozen 0
  have yz1 : w6.frozen? ⟨w.heap.size + 1, 1, none⟩ = false := hb2.frozen 1
  have yz2 : w6.frozen? ⟨w.heap.size + 1, 2, none⟩ = false := hb2.frozen 2
  have n1 : ¬ b = w.heap.size := by omega
  have n2 : ¬ w.heap.size = b := by omega
  have n3 : ¬ b = w.heap.size + 1 := by omega
  have n4 : ¬ w.heap.size + 1 = b := by omega
  have HB1 := Lib.hid hb1; have HB2 := Lib.hid hb2; have HBEL := Lib.hid hbel; have HBK := Lib.hid hbk; have HCS := Lib.hid hcs
  clear hown hgr hat hown2 hb1 hb2 hbel hbk hcs HV1 HV2 HV3
  go_wp2_with fail
  have hB2 := ((HB2.out.far (p := ⟨b, i, none⟩) n4 (.slice A n c)).far (p := ⟨w.heap.size, 1, none⟩) (by simp) (.slice (some ⟨b, 0, none⟩) N cc)).set3 (.int .i64 (room : Int)) (.slice (some ⟨b, 0, none⟩) N cc) (.slice gA M gc)
  refine bodyPost_ret (v := .agg (DocV room (some ⟨b, 0, none⟩) N cc gA M gc)) (results_cell_row rfl _ _ (w.heap.size + 1) 28 _ (0, 0) _ rfl hB2 Try.underlying28 rfl (by kernel_rfl)) rfl ?_
  have hf : Fr (fun k => w.heap.size ≤ k) w6 _ := (((Fr.refl (fun k => w.heap.size ≤ k) w6).setCell (p := ⟨b, i, none⟩) (.inl (by show w.heap.size ≤ b; omega)) (.slice A n c)).setCell (p := ⟨w.heap.size, 1, none⟩) (.inl (Nat.le_refl _)) (.slice (some ⟨b, 0, none⟩) N cc)).set3 (g := w.heap.size + 1) (.inl (by omega)) (.int .i64 (room : Int)) (.slice (some ⟨b, 0, none⟩) N cc) (.slice gA M gc)
  have hbt := HBEL.out.trans (hf.below HBEL.out.size (fun i hi => hi))
  have hBK := ((HBK.out.set_ i (.slice A n c)).far (p := ⟨w.heap.size, 1, none⟩) n1 (.slice (some ⟨b, 0, none⟩) N cc)).far3 (g := w.heap.size + 1) n3 (.int .i64 (room : Int)) (.slice (some ⟨b, 0, none⟩) N cc) (.slice gA M gc)
  have hE : ∀ k, k < w.heap.size → E k → (E k ∨ w.heap.size ≤ k) := fun k _ h => .inl h
  refine ⟨some ⟨b, 0, none⟩, cc, rfl, ⟨by rw [List.length_set, HNN.out]; exact hcc, fun _ => ⟨_, rfl, .inr (by show w.heap.size ≤ b; omega), hBK.lt, fun j l' hj => ?_⟩, (H.out.glob.below hbt (Nat.le_refl _)).mono (fun k h _ => .inl h)⟩, hbt⟩
  rw [Addr.add_lit, hBK.cell]
  by_cases hji : j = i
  · subst hji
    rw [List.getElem?_set_self (by rw [HNN.out]; exact hi)] at hj
    injection hj with hj
    subst hj
    refine ⟨A, c, ?_, (HL.out.below hbt (Nat.le_refl _)).mono (fun k h _ => .inl h)⟩
    rw [HNL.out, Nat.zero_add]
    have : j < cs.length := by omega
    simp [this]
  · rw [List.getElem?_set_ne (Ne.symm hji)] at hj
    obtain ⟨A', c', g1, g2⟩ := HV4.out j l' hj
    refine ⟨A', c', ?_, (g2.below hbt (Nat.le_refl _)).mono (fun k h _ => .inl h)⟩
    have := HCS.out j _ g1
    simpa [Ne.symm hji] using this
end
end Go.Proofs.Ytipflplilkecjaa
