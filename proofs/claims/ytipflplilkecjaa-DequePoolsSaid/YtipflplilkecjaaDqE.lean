
/-
  The document's pool: New, Put, Give, Take, Steal.
-/
import Derived.Test.YtipflplilkecjaaDqD
set_option linter.unusedVariables false
set_option linter.unusedSimpArgs false
namespace Go.Proofs.Ytipflplilkecjaa
open Go.RowKit Plain

/-- What a call of the document's leaves. -/
def DocR (w w' : World) (E : Nat → Prop) (room N : Nat) (L' : List (List Int)) (Q' : List Int) (v : Value) : Prop :=
  ∃ lA' lc' gA' gc', v = .agg (DocV room lA' N lc' gA' Q'.length gc') ∧ DocP w' (fun k => E k ∨ w.heap.size ≤ k) lA' lc' gA' gc' L' Q' ∧ Below w.heap.size w w'
theorem DocR.of {w w' : World} {E : Nat → Prop} {room N : Nat} {L' : List (List Int)} {Q' : List Int} {lA : Option Addr} {lc : Nat} {gA : Option Addr} {M gc : Nat} (hM : Q'.length = M) (h : DocP w' (fun k => E k ∨ w.heap.size ≤ k) lA lc gA gc L' Q') (hb : Below w.heap.size w w') : DocR w w' E room N L' Q' (.agg (DocV room lA N lc gA M gc)) :=
  ⟨lA, lc, gA, gc, by rw [hM], h, hb⟩
theorem DocP.later {w w' : World} {E : Nat → Prop} {lA gA : Option Addr} {lc gc : Nat} {L : List (List Int)} {Q : List Int} (h : DocP w E lA lc gA gc L Q) (hb : Below w.heap.size w w') : DocP w' (fun k => E k ∨ w.heap.size ≤ k) lA lc gA gc L Q :=
  (h.below hb (Nat.le_refl _)).mono (fun k h _ => .inl h)
/-- The two boxes of a call: the pool that came in, the result. -/
structure Two (w W : World) (room : Nat) (lA : Option Addr) (N lc : Nat) (gA : Option Addr) (M gc : Nat) : Prop where
  b1 : Blk W w.heap.size 28 (DocV room lA N lc gA M gc)
  b2 : Blk W (w.heap.size + 1) 28 #[.int .i64 0, .slice none 0 0, .slice none 0 0]
  bel : Below w.heap.size w W
theorem Two.new (w : World) (room : Nat) (lA : Option Addr) (N lc : Nat) (gA : Option Addr) (M gc : Nat) : Two w ((w.alloc (.cells (DocV room lA N lc gA M gc) 28)).alloc (.cells #[.int .i64 0, .slice none 0 0, .slice none 0 0] 28)) room lA N lc gA M gc := by
  refine ⟨(Blk.new w _ _).alloc _, ?_, ((Below.refl _ w).alloc (Nat.le_refl _) _).alloc (by simp) _⟩
  have := Blk.new (w.alloc (.cells (DocV room lA N lc gA M gc) 28)) 28 #[.int .i64 0, .slice none 0 0, .slice none 0 0]
  simpa using this
theorem Two.below {w W W' : World} {room : Nat} {lA : Option Addr} {N lc : Nat} {gA : Option Addr} {M gc : Nat} (h : Two w W room lA N lc gA M gc) (hb : Below W.heap.size W W') : Two w W' room lA N lc gA M gc :=
  ⟨h.b1.below hb h.b1.lt, h.b2.below hb h.b2.lt, h.bel.trans (hb.mono h.bel.size)⟩
theorem Two.xs {w W : World} {room : Nat} {lA : Option Addr} {N lc : Nat} {gA : Option Addr} {M gc : Nat} (h : Two w W room lA N lc gA M gc) :
    W.cell? ⟨w.heap.size, 0, none⟩ = some (.int .i64 (room : Int)) ∧ W.cell? ⟨w.heap.size, 1, none⟩ = some (.slice lA N lc) ∧ W.cell? ⟨w.heap.size, 2, none⟩ = some (.slice gA M gc) ∧ W.frozen? ⟨w.heap.size, 2, none⟩ = false :=
  ⟨(h.b1.cell 0).trans rfl, (h.b1.cell 1).trans rfl, (h.b1.cell 2).trans rfl, h.b1.frozen 2⟩
theorem Two.ys {w W : World} {room : Nat} {lA : Option Addr} {N lc : Nat} {gA : Option Addr} {M gc : Nat} (h : Two w W room lA N lc gA M gc) :
    (W.cell? ⟨w.heap.size + 1, 0, none⟩ = some (.int .i64 0) ∧ W.cell? ⟨w.heap.size + 1, 1, none⟩ = some (.slice none 0 0) ∧ W.cell? ⟨w.heap.size + 1, 2, none⟩ = some (.slice none 0 0)) ∧ W.frozen? ⟨w.heap.size + 1, 0, none⟩ = false ∧ W.frozen? ⟨w.heap.size + 1, 1, none⟩ = false ∧ W.frozen? ⟨w.heap.size + 1, 2, none⟩ = false :=
  ⟨⟨(h.b2.cell 0).trans rfl, (h.b2.cell 1).trans rfl, (h.b2.cell 2).trans rfl⟩, h.b2.frozen 0, h.b2.frozen 1, h.b2.frozen 2⟩
/-- The result is stored. -/
theorem Two.fin {w W : World} {room : Nat} {lA : Option Addr} {N lc : Nat} {gA : Option Addr} {M gc : Nat} (h : Two w W room lA N lc gA M gc) (a b c : Value) :
    Blk (((W.setCell ⟨w.heap.size + 1, 0, none⟩ a).setCell ⟨w.heap.size + 1, 1, none⟩ b).setCell ⟨w.heap.size + 1, 2, none⟩ c) (w.heap.size + 1) 28 #[a, b, c] ∧ Below w.heap.size W (((W.setCell ⟨w.heap.size + 1, 0, none⟩ a).setCell ⟨w.heap.size + 1, 1, none⟩ b).setCell ⟨w.heap.size + 1, 2, none⟩ c) :=
  ⟨h.b2.set3 a b c, ((Fr.refl (fun k => w.heap.size ≤ k) W).set3 (g := w.heap.size + 1) (.inl (by omega)) a b c).below h.bel.size (fun _ h => h)⟩

theorem set3_other (W : World) (g : Nat) (a b c : Value) (p : Addr) (hp : p.block ≠ g) : (((W.setCell ⟨g, 0, none⟩ a).setCell ⟨g, 1, none⟩ b).setCell ⟨g, 2, none⟩ c).cell? p = W.cell? p := by
  rw [World.cell?_setCell_other _ _ _ _ (fun e => hp (congrArg Addr.block e).symm), World.cell?_setCell_other _ _ _ _ (fun e => hp (congrArg Addr.block e).symm), World.cell?_setCell_other _ _ _ _ (fun e => hp (congrArg Addr.block e).symm)]
theorem fin_doc {w W0 w2 : World} {E : Nat → Prop} {lA gA : Option Addr} {lc gc : Nat} {L : List (List Int)} {Q : List Int} {a b c : Value} (h : DocP w2 (fun k => (E k ∧ k < w.heap.size) ∨ W0.heap.size ≤ k) lA lc gA gc L Q) (h2 : w.heap.size + 1 < W0.heap.size) (h3 : w.heap.size ≤ W0.heap.size) :
    DocP (((w2.setCell ⟨w.heap.size + 1, 0, none⟩ a).setCell ⟨w.heap.size + 1, 1, none⟩ b).setCell ⟨w.heap.size + 1, 2, none⟩ c) (fun k => E k ∨ w.heap.size ≤ k) lA lc gA gc L Q :=
  (h.fr ((Fr.refl (fun k => k = w.heap.size + 1) w2).set3 (g := w.heap.size + 1) (.inl rfl) a b c) (fun i hi _ e => by rcases hi with hi | hi <;> omega)).mono (fun k hk _ => by rcases hk with hk | hk; exact .inl hk.1; exact .inr (by omega))
set_option maxRecDepth 100000 in
set_option maxHeartbeats 2000000 in
theorem refNew7 (wk rm : Int) (n room : Nat) (w : World) (hn : clampW wk = n) (hr : clampD rm = room) :
    Calls Try.prog 9 #[.int .i64 wk, .int .i64 rm] w fun e w' => ∃ lA lc, e = .returned (.agg (DocV room lA n lc none 0 0)) ∧ DocP w' (fun k => w.heap.size ≤ k) lA lc none 0 (List.replicate n []) [] ∧ Below w.heap.size w w' := by
  obtain ⟨i0, hi0, hz0, hz1, hz2⟩ := info_parts info_sl
  have hcl := clampW_le wk
  rw [hn] at hcl
  have hmax : ∀ W, (Builtin.max_ #[3, 3] 3 #[.int .i64 wk, .int .i64 1]).run Try.prog W = .ok (.int .i64 (max wk 1)) W := by
    intro W
    rw [run_max_int2]
    simp only [Int.max_def]
    split <;> split <;> first | rfl | (congr 2; omega)
  have hmin : ∀ W, (Builtin.min_ #[3, 3] 3 #[.int .i64 (max wk 1), .int .i64 64]).run Try.prog W = .ok (.int .i64 (n : Int)) W := by
    intro W
    rw [run_min_int2, ← hn]
    unfold clampW
    simp only [Int.max_def, Int.min_def]
    split <;> split <;> first | rfl | (congr 2; omega)
  have hmax2 : ∀ W, (Builtin.max_ #[3, 3] 3 #[.int .i64 rm, .int .i64 1]).run Try.prog W = .ok (.int .i64 (max rm 1)) W := by
    intro W
    rw [run_max_int2]
    simp only [Int.max_def]
    split <;> split <;> first | rfl | (congr 2; omega)
  have hmin2 : ∀ W, (Builtin.min_ #[3, 3] 3 #[.int .i64 (max rm 1), .int .i64 8]).run Try.prog W = .ok (.int .i64 (room : Int)) W := by
    intro W
    rw [run_min_int2, ← hr]
    unfold clampD
    simp only [Int.max_def, Int.min_def]
    split <;> split <;> first | rfl | (congr 2; omega)
  go_enter Try.func9, Try.ntmps9
  go_wp2_with (with_reducible refine wpList_make_full _ rfl _ _ _ rfl (w.heap.size + 1) 26 i0 _ 1 Try.underlying25 hi0 hz0 hz1 _ _ _ _ n rfl rfl rfl rfl (by rw [hz2]; omega) (by unfold maxLen; omega) (by simp) ?c5)
  case c5 =>
  intro w2 hown hg
  rw [made_one] at hown
  have hb := blk_of_full2 hown
  have hbox := (Blk.new w 28 #[.int .i64 0, .slice none 0 0, .slice none 0 0]).grown hg (by simp)
  have y0 : w2.cell? ⟨w.heap.size, 0, none⟩ = some (.int .i64 0) := (hbox.cell 0).trans rfl
  have y1 : w2.cell? ⟨w.heap.size, 1, none⟩ = some (.slice none 0 0) := (hbox.cell 1).trans rfl
  have y2 : w2.cell? ⟨w.heap.size, 2, none⟩ = some (.slice none 0 0) := (hbox.cell 2).trans rfl
  have yz0 := hbox.frozen 0
  have yz1 := hbox.frozen 1
  have yz2 := hbox.frozen 2
  have hbel : Below w.heap.size w w2 := ((Below.refl _ w).alloc (Nat.le_refl _) _).grown hg (by simp) (by simp)
  have HB := Lib.hid hb; have HBX := Lib.hid hbox; have HBEL := Lib.hid hbel
  clear hown hg hb hbox hbel hmax hmin hmax2 hmin2
  go_wp2_with fail
  have hB2 := HBX.out.set3 (.int .i64 (room : Int)) (.slice (some ⟨w.heap.size + 1, 0, none⟩) n n) (.slice none 0 0)
  refine bodyPost_ret (v := .agg (DocV room (some ⟨w.heap.size + 1, 0, none⟩) n n none 0 0)) (results_cell_row rfl _ _ w.heap.size 28 _ (0, 0) _ rfl hB2 Try.underlying28 rfl (by kernel_rfl)) rfl ?_
  have hf := (Fr.refl (fun k => k = w.heap.size) w2).set3 (g := w.heap.size) (.inl rfl) (.int .i64 (room : Int)) (.slice (some ⟨w.heap.size + 1, 0, none⟩) n n) (.slice none 0 0)
  have hB := hf.blk HB.out (by omega)
  refine ⟨_, _, rfl, ⟨by simp, fun _ => ⟨_, rfl, by show w.heap.size ≤ w.heap.size + 1; omega, hB.lt, fun i l hi => ?_⟩, ⟨by simp, fun h => by simp at h⟩⟩, HBEL.out.trans (hf.below HBEL.out.size (fun i hi => by omega))⟩
  have hik := (List.getElem?_eq_some_iff.1 hi).1
  simp at hik
  rw [List.getElem?_replicate_of_lt hik] at hi
  injection hi with hi
  subst hi
  exact ⟨none, 0, by rw [Addr.add_lit, hB.cell]; simp [hik], by simp [RX]⟩

section
variable (room : Nat) (lA gA : Option Addr) (lc gc : Nat) (L : List (List Int)) (Q : List Int) (w : World) (E : Nat → Prop) (h : DocP w E lA lc gA gc L Q) (N M : Nat) (hN : L.length = N) (hM : Q.length = M) (hN64 : N ≤ 64) (hM6 : M ≤ 1000000) (hr8 : room ≤ 8) (hlr : ∀ (i : Nat) (l : List Int), L[i]? = some l → l.length ≤ room)
include h hN hM hN64 hM6 hr8 hlr
set_option maxRecDepth 100000 in
set_option maxHeartbeats 2000000 in
theorem refPut7 (x : Int) : Calls Try.prog 36 #[.agg (DocV room lA N lc gA M gc), .int .i64 x] w fun e w' => ∃ v, e = .returned v ∧ DocR w w' E room N L (Q ++ [x]) v := by
  have hused := hN
  have hT := Two.new w room lA N lc gA M gc
  have hand := fun (W : World) (hb : Below w.heap.size w W) => and_any gA gc Q x W w.heap.size ((h.glob.reads).below hb) hb.size (by omega)
  rw [hM] at hand
  obtain ⟨x0, x1, x2, xz⟩ := hT.xs
  have HT := Lib.hid hT; have H := Lib.hid h; have HAND := Lib.hid hand; have HM := Lib.hid hM
  have hu := hlr
  have hu2 := hr8
  have hu3 := hN64
  clear hT h hand hN hM hu hu2 hu3 hlr
  go_enter Try.func36, Try.ntmps36
  go_wp2_with fail
  refine (HAND.out _ HT.out.bel).mono ?_
  rintro e w1 ⟨v, rfl, hown, hb⟩
  obtain ⟨A1, c1, hv, hc1, hr1⟩ := hown.slice
  have hl1 : (Q ++ [x]).length = M + 1 := by rw [List.length_append, HM.out]; rfl
  rw [hl1] at hv
  subst hv
  have hT1 := HT.out.below hb
  have hrx := RX.of_own_n hl1 hown
  obtain ⟨p0, p1, p2, pz⟩ := hT1.xs
  obtain ⟨⟨q0, q1, q2⟩, qz0, qz1, qz2⟩ := hT1.ys
  have HT1 := Lib.hid hT1; have HRX := Lib.hid hrx; have HL1 := Lib.hid hl1; have HB := Lib.hid hb
  clear hown hr1 hb hT1 hrx HAND x0 x1 x2 xz hl1
  go_wp2_with fail
  have hset := (Fr.refl (fun k => k = w.heap.size) w1).setCell (p := ⟨w.heap.size, 2, none⟩) (.inl rfl) (.slice A1 (M + 1) c1)
  have hb1 := HT1.out.b1.set_ 2 (.slice A1 (M + 1) c1)
  have hT2 : Two w _ room lA N lc A1 (M + 1) c1 := ⟨by simpa using hb1, hset.blk HT1.out.b2 (by omega), HT1.out.bel.trans (hset.below HT1.out.bel.size (fun i hi => by omega))⟩
  obtain ⟨f1, f2⟩ := hT2.fin (.int .i64 (room : Int)) (.slice lA N lc) (.slice A1 (M + 1) c1)
  refine bodyPost_ret (v := .agg (DocV room lA N lc A1 (M + 1) c1)) (results_cell_row rfl _ _ (w.heap.size + 1) 28 _ (0, 0) _ rfl f1 Try.underlying28 rfl (by kernel_rfl)) rfl ?_
  have hbt := hT2.bel.trans f2
  have hd := H.out.later hbt
  refine ⟨_, rfl, DocR.of HL1.out ⟨hd.le, hd.rows, ?_⟩ hbt⟩
  have hfr : Fr (fun k => k = w.heap.size ∨ k = w.heap.size + 1) w1 _ := (hset.mono (fun _ _ h => .inl h)).trans ((Fr.refl (fun k => k = w.heap.size + 1) _).set3 (g := w.heap.size + 1) (.inl rfl) (.int .i64 (room : Int)) (.slice lA N lc) (.slice A1 (M + 1) c1)) (fun _ _ h => .inr h)
  exact (HRX.out.fr hfr (fun i hi hl => by simp at hi; omega)).mono (fun k hk _ => .inr (by simp at hk; omega))
end
end Go.Proofs.Ytipflplilkecjaa
