
/-
  The document's Wait.
-/
import Derived.Test.YtikelkfinjcgaaaLkU
set_option linter.unusedVariables false
set_option linter.unusedSimpArgs false
namespace Go.Proofs.Ytikelkfinjcgaaa
open Go.RowKit Plain

theorem set_same {L : List (List Int)} {m : Nat} (hm : m < L.length) (h : gl L m = []) : L.set m [] = L := by
  refine List.ext_getElem? fun i => ?_
  by_cases hi : m = i
  · subst hi
    rw [List.getElem?_set_self hm, gl_some hm, h]
  · rw [List.getElem?_set_ne hi]
theorem refUnlock_yes (w : World) (E : Nat → Prop) (z : LkQ) (p q n : Nat) (s : Lk) (h : DocC w E z p q n s) (hs : SzL s) (m : Nat) (hm : m < p) (t : Int) (hx : gn s.own m = t) :
    Calls Try.prog 44 #[.agg (mkC z p q n), .int .i64 (m : Int), .int .i64 t] w fun e w' => ∃ z' : LkQ, e = .returned (.tuple #[.agg (mkC z' p q n), .int .i64 (hd1 (gl s.lq m)), .int .i64 0]) ∧ DocWE w' (w.heap.size + 2) z' p q n (handV s m) ∧ Below w.heap.size w w' := by
  have hml : m < s.lq.length := by rw [h.ll]; exact hm
  cases hr : gl s.lq m with
  | nil =>
    have := refUnlock_none w E z p q n s h hs m hm t hx hr
    rw [show handV s m = { s with own := s.own.set m (-1) } by simp [handV, hr, hd1, set_same hml hr]]
    exact this
  | cons x r =>
    have := refUnlock_first w E z p q n s h hs m hm t hx x r hr
    rw [show handV s m = { s with own := s.own.set m x, lq := s.lq.set m r } by simp [handV, hr, hd1]]
    exact this
set_option maxRecDepth 100000 in
set_option maxHeartbeats 8000000 in
theorem refWait_yes (w : World) (E : Nat → Prop) (z : LkQ) (p q n : Nat) (s : Lk) (h : DocC w E z p q n s) (hs : SzL s) (cc m : Nat) (hc : cc < q) (hm : m < p) (t : Int) (hx : gn s.own m = t) :
    Calls Try.prog 45 #[.agg (mkC z p q n), .int .i64 (cc : Int), .int .i64 (m : Int), .int .i64 t] w fun e w' => ∃ z' : LkQ, e = .returned (.tuple #[.agg (mkC z' p q n), .int .i64 (hd1 (gl s.lq m)), .int .i64 0]) ∧ DocC w' (fun k => w.heap.size ≤ k) z' p q n { handV s m with wq := s.wq.set cc (gl s.wq cc ++ [t]) } ∧ Below w.heap.size w w' := by
  obtain ⟨i0, hi0, hz0, hz1, hz2⟩ := info_parts info_int
  have hrl := hs.e cc
  have q1 : (cc : Int) < (q : Int) := by omega
  have q0 : (0 : Int) ≤ (cc : Int) := by omega
  go_enter Try.func45, Try.ntmps45
  obtain ⟨W0, hW0⟩ : ∃ W, W = (w.alloc (.cells (mkC z p q n) 27)).alloc (.cells zeroC 27) := ⟨_, rfl⟩
  have k0 : Blk W0 w.heap.size 27 (mkC z p q n) := by rw [hW0]; exact (Blk.new w _ _).alloc _
  have r0 : Blk W0 (w.heap.size + 1) 27 zeroC := by rw [hW0]; simpa using Blk.new (w.alloc (.cells (mkC z p q n) 27)) 27 zeroC
  have l0 : Below w.heap.size w W0 := by rw [hW0]; exact ((Below.refl _ w).alloc (Nat.le_refl _) _).alloc (by simp) _
  have z0 : W0.heap.size = w.heap.size + 1 + 1 := by rw [hW0]; simp
  have co := refUnlock_yes W0 E z p q n s (h.below l0 (Nat.le_refl _)) hs m hm t hx
  have HW0 := Lib.hid hW0; have R0 := Lib.hid r0; have L0 := Lib.hid l0; have Z0 := Lib.hid z0; have CO := Lib.hid co
  obtain ⟨x0, x1, x2, x3, x4, x5, x6, x7, x8, x9⟩ := blk10 k0
  generalize hd1 (gl s.lq m) = y at *
  clear hW0 k0 r0 l0 z0 co h hs hx
  go_upto_region 1 with fail
  rw [← HW0.out]
  clear HW0
  go_wp2_with fail
  refine CO.out.mono ?_
  rintro e w1 ⟨z', rfl, ⟨b3, b4, hW⟩, hb⟩
  obtain ⟨W1, hW1⟩ : ∃ W, W = w1.alloc (.cells (mkC z' p q n) 27) := ⟨_, rfl⟩
  obtain ⟨tb, htb⟩ : ∃ b, b = w1.heap.size := ⟨_, rfl⟩
  have k1 : Blk W1 tb 27 (mkC z' p q n) := by rw [hW1, htb]; exact Blk.new w1 _ _
  have f1 : Below w1.heap.size w1 W1 := by rw [hW1]; exact (Below.refl _ _).alloc (Nat.le_refl _) _
  have r1 : Blk W1 (w.heap.size + 1) 27 zeroC := ((R0.out.below hb R0.out.lt)).below f1 (by have := (R0.out.below hb R0.out.lt).lt; omega)
  have l1 : Below w.heap.size w W1 := (L0.out.trans (hb.mono L0.out.size)).trans (f1.mono (L0.out.trans (hb.mono L0.out.size)).size)
  have hWW : DocW W1 (W0.heap.size + 2) b3 b4 z' p q n (handV s m) := hW.fr (Fr.of_below f1) (fun i h1 h2 h3 => by omega)
  have htb4 : b4 ≤ tb := by rw [htb]; exact hW.hb.2.2
  have K1 := Lib.hid k1; have R1 := Lib.hid r1; have L1 := Lib.hid l1; have HD := Lib.hid hWW; have HW1 := Lib.hid hW1; have HTB := Lib.hid htb; have HT4 := Lib.hid htb4
  clear k1 f1 r1 l1 hWW hW1 htb htb4 hW hb R0 L0 CO x0 x1 x2 x3 x4 x5 x6 x7 x8 x9
  go_upto_region 2 with fail
  rw [← HW1.out, ← HTB.out]
  clear HW1 HTB
  obtain ⟨x0, x1, x2, x3, x4, x5, x6, x7, x8, x9⟩ := blk10 K1.out
  have hwq : (handV s m).wq = s.wq := rfl
  have hml : cc < s.wq.length := by rw [← hwq, HD.out.lw]; exact hc
  obtain ⟨bq, cq, A, c, f1, f2, f3, f4, f5, f6, f7, f8, f9⟩ := HD.out.wq.at_ hml
  rw [hwq] at f6 f8 f9
  injection f1 with f1 f1a f1b
  rw [f1] at x6
  have hbo : ∀ k, (Value.slice A (gl s.wq cc).length c).ownBlock = some k → k ≠ tb ∧ k ≠ bq := fun k hk => by
    have h1 := f9 k hk
    have := HT4.out
    exact ⟨by omega, h1.2.2⟩
  have hn : ∀ W, Below W1.heap.size W1 W → W.ownsRow b3 3 1 (.slice A (gl s.wq cc).length c) (gl s.wq cc).length ((gl s.wq cc).map EnI) := fun W hb => own_later f8 hb
  have hfin : ∀ W2 A' c', OwnI W2 b3 (.slice A' ((gl s.wq cc).length + 1) c') (gl s.wq cc ++ [t]) → Fr (fun k => (Value.slice A (gl s.wq cc).length c).ownBlock = some k) W1 W2 →
      (W2.cell? ⟨tb, 6, none⟩ = some (.slice (some ⟨bq, 0, none⟩) q z'.d3) ∧ W2.cell? ⟨bq, cc, none⟩ = some (.slice A (gl s.wq cc).length c) ∧ W2.frozen? ⟨bq, cc, none⟩ = false) ∧
      Hid (Blk (W2.setCell ⟨bq, cc, none⟩ (.slice A' ((gl s.wq cc).length + 1) c')) tb 27 (mkC z' p q n) ∧ Blk (W2.setCell ⟨bq, cc, none⟩ (.slice A' ((gl s.wq cc).length + 1) c')) (w.heap.size + 1) 27 zeroC ∧ Below w.heap.size w (W2.setCell ⟨bq, cc, none⟩ (.slice A' ((gl s.wq cc).length + 1) c')) ∧ DocC (W2.setCell ⟨bq, cc, none⟩ (.slice A' ((gl s.wq cc).length + 1) c')) (fun k => w.heap.size + 1 < k) z' p q n { handV s m with wq := s.wq.set cc (gl s.wq cc ++ [t]) }) := by
    intro W2 A' c' hown hf
    have hll : (gl s.wq cc ++ [t]).length = (gl s.wq cc).length + 1 := by simp
    obtain ⟨a1, a2⟩ := HD.out.wq.append (by rw [f1]) hml f6 hf (by rw [hll]) hown
    have hkb := hf.blk K1.out (fun e => (hbo _ e).1 rfl)
    have hHb := HD.out.hb
    have hT4 := HT4.out
    have hZ0 := Z0.out
    refine ⟨⟨by rw [← f1]; exact (hkb.cell 6).trans rfl, (hf.cell (p := ⟨bq, cc, none⟩) f5 (fun e => (hbo _ e).2 rfl)).trans f6, ?_⟩, Lib.hid ⟨a2.blk K1.out (by omega), a2.blk R1.out (by omega), L1.out.trans (a2.below L1.out.size (fun i hi => by omega)), (HD.out.turn a2 a1 (by simp)).mono (fun k hk _ => by omega)⟩⟩
    have : W2.heap[bq]? = W1.heap[bq]? := hf.block bq f5 (fun e => (hbo _ e).2 rfl)
    have h7 := f7 cc
    unfold World.frozen? at h7 ⊢
    rw [this]
    exact h7
  have hgl := K1.out.lt
  have HN := Lib.hid hn; have HF := Lib.hid hfin
  have hbz : b3 ≤ W1.heap.size := by have := HD.out.hb; omega
  have hob : ∀ k, (Value.slice A (gl s.wq cc).length c).ownBlock = some k → k < W1.heap.size := fun k hk => (own_blk f8 hk).2.1
  have f70 := f7 cc
  clear hn hfin f1 f1a f1b f2 f8 f7 f9 hbo hml HD hwq K1 R1 L1 HT4
  generalize hrow : gl s.wq cc = row at *
  have HROW := Lib.hid hrow
  clear hrow
  obtain ⟨rl, hrl2⟩ : ∃ rl, rl = row.length := ⟨_, rfl⟩
  rw [← hrl2] at HN HF hrl f6 hob
  have HRL := Lib.hid hrl2; have HOB := Lib.hid hob
  clear hrl2 hob
  go_upto_region 4 with fail
  go_cut [] (fun wx => Hid (Blk wx tb 27 (mkC z' p q n) ∧ Blk wx (w.heap.size + 1) 27 zeroC ∧ Below w.heap.size w wx ∧ DocC wx (fun k => w.heap.size + 1 < k) z' p q n { handV s m with wq := s.wq.set cc (row ++ [t]) }))
  case first =>
    go_region_law (first
    | (refine step_append_any _ (by rfl) (.tmp 34) (.tmp 36) _ (by rfl) b3 3 i0 _ 1 8 Try.underlying22 hi0 hz0 hz1 hz2 rfl (by decide) (.slice A rl c) rl (row.map EnI) (by rfl) (HN.out _ ((Below.refl W1.heap.size W1).drew.alloc (Nat.le_refl _) _)) _ (some ⟨W1.heap.size, 0, none⟩) 1 1 [.int .i64 t] (by rfl) (reads_one_int W1.drew t _) (by simp [Value.oneCell']) (by unfold maxLen; omega) (by omega) (by simp; omega) ?_
       intro v2 w2 hown hgr hat
       have hown2 : OwnI w2 b3 v2 (row ++ [t]) := OwnI.snoc (by rw [← HRL.out]; exact hown)
       obtain ⟨A', c', hv2, _, _⟩ := hown2.slice
       have hll : (row ++ [t]).length = rl + 1 := by simp [HRL.out]
       rw [hll] at hv2
       subst hv2
       have hf2 : Fr (fun k => (Value.slice A rl c).ownBlock = some k) W1 w2 := ((Fr.refl (fun _ => False) W1).drew.alloc _ |>.mono (fun _ _ h => h.elim)).trans (Fr.of_grown hgr) (fun _ _ h => h)
       obtain ⟨⟨v5, v6, v7⟩, HT⟩ := HF.out w2 A' c' hown2 hf2)
    | fail)
    all_goals
      have HT2 := HT
      clear hown hgr hat hown2 hf2 hll HF HN HRL HOB v5 v6 v7 f6 f70 x0 x1 x2 x3 x4 x5 x6 x7 x8 x9
      go_wp2_with fail
      go_meet
      exact HT2
  case rest =>
  have HT := hcut
  obtain ⟨W3, hW3⟩ : ∃ W, W = wc := ⟨_, rfl⟩
  rw [← hW3] at HT ⊢
  clear hW3 hcut HF HN HRL HOB f6 f70 x0 x1 x2 x3 x4 x5 x6 x7 x8 x9
  obtain ⟨x0, x1, x2, x3, x4, x5, x6, x7, x8, x9⟩ := blk10 HT.out.1
  obtain ⟨s0, s1, s2, s3, s4, s5, s6, s7, s8, s9⟩ := blk10 HT.out.2.1
  have t0 := HT.out.2.1.frozen 0
  have t1 := HT.out.2.1.frozen 1
  have t2 := HT.out.2.1.frozen 2
  have t3 := HT.out.2.1.frozen 3
  have t4 := HT.out.2.1.frozen 4
  have t5 := HT.out.2.1.frozen 5
  have t6 := HT.out.2.1.frozen 6
  have t7 := HT.out.2.1.frozen 7
  have t8 := HT.out.2.1.frozen 8
  have t9 := HT.out.2.1.frozen 9
  have HE := Lib.hid (doc_fin HT.out.2.1 HT.out.2.2.1 HT.out.2.2.2)
  clear HT
  go_wp2_with fail
  refine bodyPost_ret (v := .tuple #[.agg #[.int .i64 0, .slice none 0 0, .slice z'.A0 p z'.d0, .slice z'.A1 n z'.d1, .slice none 0 0, .slice z'.A2 p z'.d2, .slice z'.A3 q z'.d3, .slice z'.A4 n z'.d4, .slice none 0 0, .slice none 0 0], .int .i64 y, .int .i64 0]) (res9_2 rfl _ _ (w.heap.size + 1) 27 _ (0, 0) _ _ _ rfl rfl rfl HE.out.1 Try.underlying27 rfl (by kernel_rfl)) rfl ?_
  first
    | exact ⟨z', rfl, HE.out.2.1, HE.out.2.2⟩
    | exact ⟨z', rfl, by rw [HROW.out]; exact HE.out.2.1, HE.out.2.2⟩
end Go.Proofs.Ytikelkfinjcgaaa
