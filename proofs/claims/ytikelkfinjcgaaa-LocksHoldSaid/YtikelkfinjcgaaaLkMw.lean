
/-
  The law's mutexes, of both: Broadcast, and where no condition is.
-/
import Derived.Test.YtikelkfinjcgaaaLkMv
set_option linter.unusedVariables false
set_option linter.unusedSimpArgs false
namespace Go.Proofs.Ytikelkfinjcgaaa
open Go.RowKit Plain

theorem blk_drewN {W : World} {g : Nat} {t : TypeId} {cs : Array Value} (h : Blk W g t cs) (k : Nat) : Blk (W.drewN k) g t cs := h
theorem set10_drewN (W : World) (g k : Nat) (a0 a1 a2 a3 a4 a5 a6 a7 a8 a9 : Value) : (((((((((((W.drewN k).setCell ⟨g, 0, none⟩ a0).setCell ⟨g, 1, none⟩ a1).setCell ⟨g, 2, none⟩ a2).setCell ⟨g, 3, none⟩ a3).setCell ⟨g, 4, none⟩ a4).setCell ⟨g, 5, none⟩ a5).setCell ⟨g, 6, none⟩ a6).setCell ⟨g, 7, none⟩ a7).setCell ⟨g, 8, none⟩ a8).setCell ⟨g, 9, none⟩ a9) = World.drewN ((((((((((W.setCell ⟨g, 0, none⟩ a0).setCell ⟨g, 1, none⟩ a1).setCell ⟨g, 2, none⟩ a2).setCell ⟨g, 3, none⟩ a3).setCell ⟨g, 4, none⟩ a4).setCell ⟨g, 5, none⟩ a5).setCell ⟨g, 6, none⟩ a6).setCell ⟨g, 7, none⟩ a7).setCell ⟨g, 8, none⟩ a8).setCell ⟨g, 9, none⟩ a9) k := by
  rw [drewN_setCell, drewN_setCell, drewN_setCell, drewN_setCell, drewN_setCell, drewN_setCell, drewN_setCell, drewN_setCell, drewN_setCell, drewN_setCell]
theorem mu_drewN {w W : World} {B : Nat} {h : LkH} {E : Nat → Prop} {p q n g : Nat} {z' : LkQ} {s : Lk} {e : Ending} {cs : Array Value} (hm : MuPost w B h E p q n s e ((((((((((W.setCell ⟨w.heap.size + 1 + 1, 0, none⟩ (.int .i64 0)).setCell ⟨w.heap.size + 1 + 1, 1, none⟩ (.slice none 0 0)).setCell ⟨w.heap.size + 1 + 1, 2, none⟩ (.slice z'.A0 p z'.d0)).setCell ⟨w.heap.size + 1 + 1, 3, none⟩ (.slice z'.A1 n z'.d1)).setCell ⟨w.heap.size + 1 + 1, 4, none⟩ (.slice none 0 0)).setCell ⟨w.heap.size + 1 + 1, 5, none⟩ (.slice z'.A2 p z'.d2)).setCell ⟨w.heap.size + 1 + 1, 6, none⟩ (.slice z'.A3 q z'.d3)).setCell ⟨w.heap.size + 1 + 1, 7, none⟩ (.slice z'.A4 n z'.d4)).setCell ⟨w.heap.size + 1 + 1, 8, none⟩ (.slice none 0 0)).setCell ⟨w.heap.size + 1 + 1, 9, none⟩ (.slice none 0 0)) ∧ Blk ((((((((((W.setCell ⟨w.heap.size + 1 + 1, 0, none⟩ (.int .i64 0)).setCell ⟨w.heap.size + 1 + 1, 1, none⟩ (.slice none 0 0)).setCell ⟨w.heap.size + 1 + 1, 2, none⟩ (.slice z'.A0 p z'.d0)).setCell ⟨w.heap.size + 1 + 1, 3, none⟩ (.slice z'.A1 n z'.d1)).setCell ⟨w.heap.size + 1 + 1, 4, none⟩ (.slice none 0 0)).setCell ⟨w.heap.size + 1 + 1, 5, none⟩ (.slice z'.A2 p z'.d2)).setCell ⟨w.heap.size + 1 + 1, 6, none⟩ (.slice z'.A3 q z'.d3)).setCell ⟨w.heap.size + 1 + 1, 7, none⟩ (.slice z'.A4 n z'.d4)).setCell ⟨w.heap.size + 1 + 1, 8, none⟩ (.slice none 0 0)).setCell ⟨w.heap.size + 1 + 1, 9, none⟩ (.slice none 0 0)) g 27 cs) (k : Nat) : MuPost w B h E p q n s e (((((((((((W.drewN k).setCell ⟨w.heap.size + 1 + 1, 0, none⟩ (.int .i64 0)).setCell ⟨w.heap.size + 1 + 1, 1, none⟩ (.slice none 0 0)).setCell ⟨w.heap.size + 1 + 1, 2, none⟩ (.slice z'.A0 p z'.d0)).setCell ⟨w.heap.size + 1 + 1, 3, none⟩ (.slice z'.A1 n z'.d1)).setCell ⟨w.heap.size + 1 + 1, 4, none⟩ (.slice none 0 0)).setCell ⟨w.heap.size + 1 + 1, 5, none⟩ (.slice z'.A2 p z'.d2)).setCell ⟨w.heap.size + 1 + 1, 6, none⟩ (.slice z'.A3 q z'.d3)).setCell ⟨w.heap.size + 1 + 1, 7, none⟩ (.slice z'.A4 n z'.d4)).setCell ⟨w.heap.size + 1 + 1, 8, none⟩ (.slice none 0 0)).setCell ⟨w.heap.size + 1 + 1, 9, none⟩ (.slice none 0 0)) ∧ Blk (((((((((((W.drewN k).setCell ⟨w.heap.size + 1 + 1, 0, none⟩ (.int .i64 0)).setCell ⟨w.heap.size + 1 + 1, 1, none⟩ (.slice none 0 0)).setCell ⟨w.heap.size + 1 + 1, 2, none⟩ (.slice z'.A0 p z'.d0)).setCell ⟨w.heap.size + 1 + 1, 3, none⟩ (.slice z'.A1 n z'.d1)).setCell ⟨w.heap.size + 1 + 1, 4, none⟩ (.slice none 0 0)).setCell ⟨w.heap.size + 1 + 1, 5, none⟩ (.slice z'.A2 p z'.d2)).setCell ⟨w.heap.size + 1 + 1, 6, none⟩ (.slice z'.A3 q z'.d3)).setCell ⟨w.heap.size + 1 + 1, 7, none⟩ (.slice z'.A4 n z'.d4)).setCell ⟨w.heap.size + 1 + 1, 8, none⟩ (.slice none 0 0)).setCell ⟨w.heap.size + 1 + 1, 9, none⟩ (.slice none 0 0)) g 27 cs := by
  have hk : (((((((((((W.drewN k).setCell ⟨w.heap.size + 1 + 1, 0, none⟩ (.int .i64 0)).setCell ⟨w.heap.size + 1 + 1, 1, none⟩ (.slice none 0 0)).setCell ⟨w.heap.size + 1 + 1, 2, none⟩ (.slice z'.A0 p z'.d0)).setCell ⟨w.heap.size + 1 + 1, 3, none⟩ (.slice z'.A1 n z'.d1)).setCell ⟨w.heap.size + 1 + 1, 4, none⟩ (.slice none 0 0)).setCell ⟨w.heap.size + 1 + 1, 5, none⟩ (.slice z'.A2 p z'.d2)).setCell ⟨w.heap.size + 1 + 1, 6, none⟩ (.slice z'.A3 q z'.d3)).setCell ⟨w.heap.size + 1 + 1, 7, none⟩ (.slice z'.A4 n z'.d4)).setCell ⟨w.heap.size + 1 + 1, 8, none⟩ (.slice none 0 0)).setCell ⟨w.heap.size + 1 + 1, 9, none⟩ (.slice none 0 0)) = World.drewN ((((((((((W.setCell ⟨w.heap.size + 1 + 1, 0, none⟩ (.int .i64 0)).setCell ⟨w.heap.size + 1 + 1, 1, none⟩ (.slice none 0 0)).setCell ⟨w.heap.size + 1 + 1, 2, none⟩ (.slice z'.A0 p z'.d0)).setCell ⟨w.heap.size + 1 + 1, 3, none⟩ (.slice z'.A1 n z'.d1)).setCell ⟨w.heap.size + 1 + 1, 4, none⟩ (.slice none 0 0)).setCell ⟨w.heap.size + 1 + 1, 5, none⟩ (.slice z'.A2 p z'.d2)).setCell ⟨w.heap.size + 1 + 1, 6, none⟩ (.slice z'.A3 q z'.d3)).setCell ⟨w.heap.size + 1 + 1, 7, none⟩ (.slice z'.A4 n z'.d4)).setCell ⟨w.heap.size + 1 + 1, 8, none⟩ (.slice none 0 0)).setCell ⟨w.heap.size + 1 + 1, 9, none⟩ (.slice none 0 0)) k := set10_drewN W (w.heap.size + 1 + 1) k (.int .i64 0) (.slice none 0 0) (.slice z'.A0 p z'.d0) (.slice z'.A1 n z'.d1) (.slice none 0 0) (.slice z'.A2 p z'.d2) (.slice z'.A3 q z'.d3) (.slice z'.A4 n z'.d4) (.slice none 0 0) (.slice none 0 0)
  rw [hk]
  obtain ⟨⟨z, h1, h2, h3, h4⟩, h5⟩ := hm
  exact ⟨⟨z, h1, h2.drewN k, h3.drewN k, h4.drewN k⟩, blk_drewN h5 k⟩
set_option maxRecDepth 100000 in
set_option maxHeartbeats 8000000 in
theorem mutexes_broadcast (w : World) (B : Nat) (h : LkH) (E : Nat → Prop) (z : LkQ) (p q n : Nat) (s : Lk) (tv x t : Int) (hl : LkM w B h s) (hd : DocC w E z p q n s) {K : Nat} (O : LkOk K s) (hK : K ≤ 100000) (hE : ∀ k, E k → k < w.heap.size → ¬ h.W k) (hx1 : -9223372036854775808 ≤ x) (hx2 : x ≤ 9223372036854775807) (ht : 0 ≤ t) (ht2 : t ≤ 1000000) (hp : 0 < p) (hp2 : p ≤ 8) (m : Nat) (hmx : aroundV x p = (m : Int)) (c m2 : Nat) (hq : 0 < q) (hq2 : q ≤ 8) (hcx : aroundV x q = (c : Int)) (hm2 : c % p = m2) (s2 : Lk) (a2 : Int) (hsb : broadV c m2 (gl s.wq c) s (-1) = (s2, a2)):
    Calls Try.prog 25 #[.pointer (some ⟨h.g, 0, none⟩), .agg (mkC z p q n), .agg #[.int .i64 4, .int .i64 tv, .int .i64 x], .int .i64 t] w (MuPost w B h E p q n s2) := by
  have hdw := MuW.new w 4 tv x hl hd
  obtain ⟨W3, hW3⟩ : ∃ W, W = (((w.alloc (.cells (mkC z p q n) 27)).alloc (.cells #[.int .i64 4, .int .i64 tv, .int .i64 x] 34)).alloc (.cells zeroC 27)) := ⟨_, rfl⟩
  rw [← hW3] at hdw
  have hgb := hl.box.lt
  have hlo := hd.lo; have hll := hd.ll; have hlw := hd.lw
  have HDW := Lib.hid hdw; have HW3 := Lib.hid hW3; have HGB := Lib.hid hgb
  have hp0 : (0 : Int) < (p : Int) := by omega
  have hmm := aroundV_lt (n := x) hp0
  rw [hmx] at hmm
  have hm : m < p := by omega
  have har := fun W => around_any x p W hx1 hx2 hp0 (by omega)
  rw [hmx] at har
  have HAR := Lib.hid har
  obtain ⟨x0, x1, x2, x3, x4, x5, x6, x7, x8, x9⟩ := blk10 hdw.b5
  have d0 : W3.cell? ⟨w.heap.size + 1, 0, none⟩ = some (.int .i64 4) := (hdw.b6.cell 0).trans rfl
  have d1 : W3.cell? ⟨w.heap.size + 1, 1, none⟩ = some (.int .i64 tv) := (hdw.b6.cell 1).trans rfl
  have d2 : W3.cell? ⟨w.heap.size + 1, 2, none⟩ = some (.int .i64 x) := (hdw.b6.cell 2).trans rfl
  have hq0 : (0 : Int) < (q : Int) := by omega
  have hcc := aroundV_lt (n := x) hq0
  rw [hcx] at hcc
  have hc : c < q := by omega
  have haq := fun W => around_any x q W hx1 hx2 hq0 (by omega)
  rw [hcx] at haq
  have HAQ := Lib.hid haq
  have hrem : (c : Int).tmod (p : Int) = (m2 : Int) := by rw [← hm2]; exact (Int.ofNat_tmod c p).symm
  have hm2p : m2 < p := by rw [← hm2]; exact Nat.mod_lt _ hp
  have hpz : ¬ (p : Int) = 0 := by omega
  clear hcc haq hm2
  clear hl hd hdw hW3 hgb hmm har hlo hll hlw
  go_enter Try.func25, Try.ntmps25
  go_upto_region 1 with fail
  rw [← HW3.out]
  clear HW3
  go_wp2_with fail
  refine (HAR.out _).mono ?_
  rintro e w4 ⟨rfl, rfl⟩
  clear HAR
  go_wp2_with fail
  refine (HAQ.out _).mono ?_
  rintro e w4 ⟨rfl, rfl⟩
  clear HAQ
  have hlo := HDW.out.dc.lo
  have hlw := HDW.out.dc.lw
  have hmo : m2 < s.own.length := by omega
  have hwo : c < s.wq.length := by omega
  have hmn : -1 ≤ gn s.own m2 := (O.own _ (gn_mem hmo)).1
  have hc : ∀ W, LkM W B { h with X := fun k => h.X k ∨ k = w.heap.size + 1 + 1 } s → Calls Try.prog 22 #[.pointer (some ⟨h.g, 0, none⟩), .int .i64 (c : Int), .int .i64 (m2 : Int)] W (fun e w' => ∃ v, e = .returned (.tuple #[v, .int .i64 (broadV c m2 (gl s.wq c) s (-1)).2]) ∧ LkM w' B { h with X := fun k => h.X k ∨ k = w.heap.size + 1 + 1 } (broadV c m2 (gl s.wq c) s (-1)).1 ∧ OwnI w' W.heap.size v (gl s.wq c) ∧ Fr h.W W w') := fun W hl => by
    refine (broadcast_any hl O (by omega) c m2 hwo hmo).mono ?_
    rintro e w' ⟨v, h1, h2, h3⟩
    exact ⟨v, h1, h2.m.dropX (X' := fun k => h.X k ∨ k = w.heap.size + 1 + 1) (fun k hk => .inl hk), h2.o, h3⟩
  have hdb : ∀ k, (ME w E) k → k < w.heap.size + 1 + 1 + 1 ∨ w.heap.size + 1 + 1 + 1 ≤ k → ¬ h.W k := fun k hk _ e => by
    have := HDW.out.hW k e
    rcases hk with hk | hk
    · exact hE k hk.1 hk.2 e
    · omega
  have hz39 := HDW.out.bel.size
  have HZ3 := Lib.hid hz39
  clear hz39
  have HC := Lib.hid hc; have HDB := Lib.hid hdb
  clear hc hdb
  have hdoc := docBroadcast W3 _ z p q n s HDW.out.dc O hK c m2 hc hm2p
  have hrl : (gl s.wq c).length ≤ 100000 := by have := gl_le s.wq c; have := O.tt; omega
  rw [hsb] at hdoc HC
  generalize gl s.wq c = row at *
  have HDC := Lib.hid hdoc
  clear hdoc hmn hmo hwo hlo hlw hsb O hE
  go_wp2_with fail
  refine (HDC.out).mono ?_
  rintro e w4 ⟨z', v0, rfl, hd4, ho4, hb⟩
  have zb := hb.size
  obtain ⟨nb, hnb⟩ : ∃ b, b = w4.heap.size := ⟨_, rfl⟩
  have hsz := HDW.out.sz
  have hb5 := Blk.new w4 27 (mkC z' p q n)
  have hb6 := (HDW.out.b6.below hb (by omega)).alloc (.cells (mkC z' p q n) 27)
  have hb8 := (HDW.out.b8.below hb (by omega)).alloc (.cells (mkC z' p q n) 27)
  have hl4 := (HDW.out.lk.below hb (Nat.le_refl _)).alloc (.cells (mkC z' p q n) 27)
  have hd5 : DocC (w4.alloc (.cells (mkC z' p q n) 27)) (ME w E) z' p q n s2  := (hd4.mono (E' := ME w E) (fun k hk _ => by rcases hk with hk | hk; exact .inl hk.1; exact .inr (by omega))).below ((Below.refl _ w4).alloc (Nat.le_refl _) _) (Nat.le_refl _)
  have hbel := (HDW.out.bel.trans (hb.mono (by omega))).alloc (by omega) (.cells (mkC z' p q n) 27)
  obtain ⟨W5, hW5⟩ : ∃ W, W = w4.alloc (.cells (mkC z' p q n) 27) := ⟨_, rfl⟩
  rw [← hW5] at hb5 hb6 hb8 hl4 hd5 hbel
  rw [← hnb] at hb5
  have H5 := Lib.hid hb5; have H6 := Lib.hid hb6; have H8 := Lib.hid hb8; have HL := Lib.hid hl4; have HD := Lib.hid hd5; have HBEL := Lib.hid hbel; have HW5 := Lib.hid hW5; have HNB := Lib.hid hnb; have HW := Lib.hid HDW.out.hW
  have zn : w.heap.size + 1 + 1 < nb := by omega
  have zn5 := hb5.lt
  have ho5 : OwnI W5 W3.heap.size v0 row := by rw [HW5.out]; exact own_later ho4 ((Below.refl _ w4).alloc (Nat.le_refl _) _)
  have HO5 := Lib.hid ho5
  clear ho4 ho5
  clear x0 x1 x2 x3 x4 x5 x6 x7 x8 x9 d0 d1 d2 hb5 hb6 hb8 hl4 hd4 hd5 hbel hb hW5 hnb hsz HDW zb
  go_upto_region 23 with fail
  rw [← HW5.out, ← HNB.out]
  clear HW5 HNB
  have hc5 := HC.out W5 HL.out
  have HC5 := Lib.hid hc5
  clear hc5 HC
  go_wp2_with fail
  refine HC5.out.mono ?_
  rintro e w6 ⟨v, rfl, hq, ho6, hf⟩
  have k5 := hf.blk H5.out (fun e => by have := HW.out _ e; omega)
  have k8 := hf.blk H8.out (fun e => by have := HW.out _ e; omega)
  have hz3 : w.heap.size ≤ W3.heap.size := HZ3.out
  have ho7 : OwnI w6 W3.heap.size v0 row := hf.own HO5.out (fun i hi e => by have := (own_blk HO5.out hi).1; have := HW.out _ e; omega)
  have hE := mu_end (E := E) k8 hq (HD.out.fr hf (fun i hi _ e => HDB.out i hi (by omega) e)) (((Fr.of_below HBEL.out).mono (S := h.W) (fun i hi e => by omega)).trans hf (fun i _ e => e)) HGB.out HW.out
  obtain ⟨A, ca, rfl, _, hra⟩ := ho6.slice
  obtain ⟨A0, ca0, rfl, _, hra0⟩ := ho7.slice
  have hsame := sameInts_yes row row.length rfl w6.drew _ _ A A0 ca ca0 hra hra0 (by omega)
  obtain ⟨rl, hrl2⟩ : ∃ rl, rl = row.length := ⟨_, rfl⟩
  rw [← hrl2] at hsame
  have HSM := Lib.hid hsame
  have HE := Lib.hid hE
  have K5 := Lib.hid k5; have K8 := Lib.hid k8
  clear hE hq hf HL HD HBEL HDB H5 H6 H8 HC5 HO5 ho6 ho7 hra hra0 hsame k5 k8 hrl HZ3
  rw [← hrl2]
  clear hrl2
  go_upto_region 24 with fail
  have n0 : w6.cell? ⟨nb, 0, none⟩ = some (.int .i64 0) := (K5.out.cell 0).trans rfl
  have n1 : w6.cell? ⟨nb, 1, none⟩ = some (.slice none 0 0) := (K5.out.cell 1).trans rfl
  have n2 : w6.cell? ⟨nb, 2, none⟩ = some (.slice z'.A0 p z'.d0) := (K5.out.cell 2).trans rfl
  have n3 : w6.cell? ⟨nb, 3, none⟩ = some (.slice z'.A1 n z'.d1) := (K5.out.cell 3).trans rfl
  have n4 : w6.cell? ⟨nb, 4, none⟩ = some (.slice none 0 0) := (K5.out.cell 4).trans rfl
  have n5 : w6.cell? ⟨nb, 5, none⟩ = some (.slice z'.A2 p z'.d2) := (K5.out.cell 5).trans rfl
  have n6 : w6.cell? ⟨nb, 6, none⟩ = some (.slice z'.A3 q z'.d3) := (K5.out.cell 6).trans rfl
  have n7 : w6.cell? ⟨nb, 7, none⟩ = some (.slice z'.A4 n z'.d4) := (K5.out.cell 7).trans rfl
  have n8 : w6.cell? ⟨nb, 8, none⟩ = some (.slice none 0 0) := (K5.out.cell 8).trans rfl
  have n9 : w6.cell? ⟨nb, 9, none⟩ = some (.slice none 0 0) := (K5.out.cell 9).trans rfl
  have t0 : w6.cell? ⟨w.heap.size + 1 + 1, 0, none⟩ = some (.int .i64 0) := (K8.out.cell 0).trans rfl
  have u0 : w6.frozen? ⟨w.heap.size + 1 + 1, 0, none⟩ = false := K8.out.frozen 0
  have t1 : w6.cell? ⟨w.heap.size + 1 + 1, 1, none⟩ = some (.slice none 0 0) := (K8.out.cell 1).trans rfl
  have u1 : w6.frozen? ⟨w.heap.size + 1 + 1, 1, none⟩ = false := K8.out.frozen 1
  have t2 : w6.cell? ⟨w.heap.size + 1 + 1, 2, none⟩ = some (.slice none 0 0) := (K8.out.cell 2).trans rfl
  have u2 : w6.frozen? ⟨w.heap.size + 1 + 1, 2, none⟩ = false := K8.out.frozen 2
  have t3 : w6.cell? ⟨w.heap.size + 1 + 1, 3, none⟩ = some (.slice none 0 0) := (K8.out.cell 3).trans rfl
  have u3 : w6.frozen? ⟨w.heap.size + 1 + 1, 3, none⟩ = false := K8.out.frozen 3
  have t4 : w6.cell? ⟨w.heap.size + 1 + 1, 4, none⟩ = some (.slice none 0 0) := (K8.out.cell 4).trans rfl
  have u4 : w6.frozen? ⟨w.heap.size + 1 + 1, 4, none⟩ = false := K8.out.frozen 4
  have t5 : w6.cell? ⟨w.heap.size + 1 + 1, 5, none⟩ = some (.slice none 0 0) := (K8.out.cell 5).trans rfl
  have u5 : w6.frozen? ⟨w.heap.size + 1 + 1, 5, none⟩ = false := K8.out.frozen 5
  have t6 : w6.cell? ⟨w.heap.size + 1 + 1, 6, none⟩ = some (.slice none 0 0) := (K8.out.cell 6).trans rfl
  have u6 : w6.frozen? ⟨w.heap.size + 1 + 1, 6, none⟩ = false := K8.out.frozen 6
  have t7 : w6.cell? ⟨w.heap.size + 1 + 1, 7, none⟩ = some (.slice none 0 0) := (K8.out.cell 7).trans rfl
  have u7 : w6.frozen? ⟨w.heap.size + 1 + 1, 7, none⟩ = false := K8.out.frozen 7
  have t8 : w6.cell? ⟨w.heap.size + 1 + 1, 8, none⟩ = some (.slice none 0 0) := (K8.out.cell 8).trans rfl
  have u8 : w6.frozen? ⟨w.heap.size + 1 + 1, 8, none⟩ = false := K8.out.frozen 8
  have t9 : w6.cell? ⟨w.heap.size + 1 + 1, 9, none⟩ = some (.slice none 0 0) := (K8.out.cell 9).trans rfl
  have u9 : w6.frozen? ⟨w.heap.size + 1 + 1, 9, none⟩ = false := K8.out.frozen 9
  have hks : ∀ W : World, (W.cell? ⟨nb, 0, none⟩ = some (.int .i64 0) ∧ W.cell? ⟨nb, 1, none⟩ = some (.slice none 0 0) ∧ W.cell? ⟨nb, 2, none⟩ = some (.slice z'.A0 p z'.d0) ∧ W.cell? ⟨nb, 3, none⟩ = some (.slice z'.A1 n z'.d1) ∧ W.cell? ⟨nb, 4, none⟩ = some (.slice none 0 0) ∧ W.cell? ⟨nb, 5, none⟩ = some (.slice z'.A2 p z'.d2) ∧ W.cell? ⟨nb, 6, none⟩ = some (.slice z'.A3 q z'.d3) ∧ W.cell? ⟨nb, 7, none⟩ = some (.slice z'.A4 n z'.d4) ∧ W.cell? ⟨nb, 8, none⟩ = some (.slice none 0 0) ∧ W.cell? ⟨nb, 9, none⟩ = some (.slice none 0 0)) → ((((((((((W.setCell ⟨w.heap.size + 1 + 1, 0, none⟩ (.int .i64 0)).setCell ⟨w.heap.size + 1 + 1, 1, none⟩ (.slice none 0 0)).setCell ⟨w.heap.size + 1 + 1, 2, none⟩ (.slice z'.A0 p z'.d0)).setCell ⟨w.heap.size + 1 + 1, 3, none⟩ (.slice z'.A1 n z'.d1)).setCell ⟨w.heap.size + 1 + 1, 4, none⟩ (.slice none 0 0)).setCell ⟨w.heap.size + 1 + 1, 5, none⟩ (.slice z'.A2 p z'.d2)).setCell ⟨w.heap.size + 1 + 1, 6, none⟩ (.slice z'.A3 q z'.d3)).setCell ⟨w.heap.size + 1 + 1, 7, none⟩ (.slice z'.A4 n z'.d4)).setCell ⟨w.heap.size + 1 + 1, 8, none⟩ (.slice none 0 0)).setCell ⟨w.heap.size + 1 + 1, 9, none⟩ (.slice none 0 0)).cell? ⟨nb, 0, none⟩ = some (.int .i64 0) ∧ ((((((((((W.setCell ⟨w.heap.size + 1 + 1, 0, none⟩ (.int .i64 0)).setCell ⟨w.heap.size + 1 + 1, 1, none⟩ (.slice none 0 0)).setCell ⟨w.heap.size + 1 + 1, 2, none⟩ (.slice z'.A0 p z'.d0)).setCell ⟨w.heap.size + 1 + 1, 3, none⟩ (.slice z'.A1 n z'.d1)).setCell ⟨w.heap.size + 1 + 1, 4, none⟩ (.slice none 0 0)).setCell ⟨w.heap.size + 1 + 1, 5, none⟩ (.slice z'.A2 p z'.d2)).setCell ⟨w.heap.size + 1 + 1, 6, none⟩ (.slice z'.A3 q z'.d3)).setCell ⟨w.heap.size + 1 + 1, 7, none⟩ (.slice z'.A4 n z'.d4)).setCell ⟨w.heap.size + 1 + 1, 8, none⟩ (.slice none 0 0)).setCell ⟨w.heap.size + 1 + 1, 9, none⟩ (.slice none 0 0)).cell? ⟨nb, 1, none⟩ = some (.slice none 0 0) ∧ ((((((((((W.setCell ⟨w.heap.size + 1 + 1, 0, none⟩ (.int .i64 0)).setCell ⟨w.heap.size + 1 + 1, 1, none⟩ (.slice none 0 0)).setCell ⟨w.heap.size + 1 + 1, 2, none⟩ (.slice z'.A0 p z'.d0)).setCell ⟨w.heap.size + 1 + 1, 3, none⟩ (.slice z'.A1 n z'.d1)).setCell ⟨w.heap.size + 1 + 1, 4, none⟩ (.slice none 0 0)).setCell ⟨w.heap.size + 1 + 1, 5, none⟩ (.slice z'.A2 p z'.d2)).setCell ⟨w.heap.size + 1 + 1, 6, none⟩ (.slice z'.A3 q z'.d3)).setCell ⟨w.heap.size + 1 + 1, 7, none⟩ (.slice z'.A4 n z'.d4)).setCell ⟨w.heap.size + 1 + 1, 8, none⟩ (.slice none 0 0)).setCell ⟨w.heap.size + 1 + 1, 9, none⟩ (.slice none 0 0)).cell? ⟨nb, 2, none⟩ = some (.slice z'.A0 p z'.d0) ∧ ((((((((((W.setCell ⟨w.heap.size + 1 + 1, 0, none⟩ (.int .i64 0)).setCell ⟨w.heap.size + 1 + 1, 1, none⟩ (.slice none 0 0)).setCell ⟨w.heap.size + 1 + 1, 2, none⟩ (.slice z'.A0 p z'.d0)).setCell ⟨w.heap.size + 1 + 1, 3, none⟩ (.slice z'.A1 n z'.d1)).setCell ⟨w.heap.size + 1 + 1, 4, none⟩ (.slice none 0 0)).setCell ⟨w.heap.size + 1 + 1, 5, none⟩ (.slice z'.A2 p z'.d2)).setCell ⟨w.heap.size + 1 + 1, 6, none⟩ (.slice z'.A3 q z'.d3)).setCell ⟨w.heap.size + 1 + 1, 7, none⟩ (.slice z'.A4 n z'.d4)).setCell ⟨w.heap.size + 1 + 1, 8, none⟩ (.slice none 0 0)).setCell ⟨w.heap.size + 1 + 1, 9, none⟩ (.slice none 0 0)).cell? ⟨nb, 3, none⟩ = some (.slice z'.A1 n z'.d1) ∧ ((((((((((W.setCell ⟨w.heap.size + 1 + 1, 0, none⟩ (.int .i64 0)).setCell ⟨w.heap.size + 1 + 1, 1, none⟩ (.slice none 0 0)).setCell ⟨w.heap.size + 1 + 1, 2, none⟩ (.slice z'.A0 p z'.d0)).setCell ⟨w.heap.size + 1 + 1, 3, none⟩ (.slice z'.A1 n z'.d1)).setCell ⟨w.heap.size + 1 + 1, 4, none⟩ (.slice none 0 0)).setCell ⟨w.heap.size + 1 + 1, 5, none⟩ (.slice z'.A2 p z'.d2)).setCell ⟨w.heap.size + 1 + 1, 6, none⟩ (.slice z'.A3 q z'.d3)).setCell ⟨w.heap.size + 1 + 1, 7, none⟩ (.slice z'.A4 n z'.d4)).setCell ⟨w.heap.size + 1 + 1, 8, none⟩ (.slice none 0 0)).setCell ⟨w.heap.size + 1 + 1, 9, none⟩ (.slice none 0 0)).cell? ⟨nb, 4, none⟩ = some (.slice none 0 0) ∧ ((((((((((W.setCell ⟨w.heap.size + 1 + 1, 0, none⟩ (.int .i64 0)).setCell ⟨w.heap.size + 1 + 1, 1, none⟩ (.slice none 0 0)).setCell ⟨w.heap.size + 1 + 1, 2, none⟩ (.slice z'.A0 p z'.d0)).setCell ⟨w.heap.size + 1 + 1, 3, none⟩ (.slice z'.A1 n z'.d1)).setCell ⟨w.heap.size + 1 + 1, 4, none⟩ (.slice none 0 0)).setCell ⟨w.heap.size + 1 + 1, 5, none⟩ (.slice z'.A2 p z'.d2)).setCell ⟨w.heap.size + 1 + 1, 6, none⟩ (.slice z'.A3 q z'.d3)).setCell ⟨w.heap.size + 1 + 1, 7, none⟩ (.slice z'.A4 n z'.d4)).setCell ⟨w.heap.size + 1 + 1, 8, none⟩ (.slice none 0 0)).setCell ⟨w.heap.size + 1 + 1, 9, none⟩ (.slice none 0 0)).cell? ⟨nb, 5, none⟩ = some (.slice z'.A2 p z'.d2) ∧ ((((((((((W.setCell ⟨w.heap.size + 1 + 1, 0, none⟩ (.int .i64 0)).setCell ⟨w.heap.size + 1 + 1, 1, none⟩ (.slice none 0 0)).setCell ⟨w.heap.size + 1 + 1, 2, none⟩ (.slice z'.A0 p z'.d0)).setCell ⟨w.heap.size + 1 + 1, 3, none⟩ (.slice z'.A1 n z'.d1)).setCell ⟨w.heap.size + 1 + 1, 4, none⟩ (.slice none 0 0)).setCell ⟨w.heap.size + 1 + 1, 5, none⟩ (.slice z'.A2 p z'.d2)).setCell ⟨w.heap.size + 1 + 1, 6, none⟩ (.slice z'.A3 q z'.d3)).setCell ⟨w.heap.size + 1 + 1, 7, none⟩ (.slice z'.A4 n z'.d4)).setCell ⟨w.heap.size + 1 + 1, 8, none⟩ (.slice none 0 0)).setCell ⟨w.heap.size + 1 + 1, 9, none⟩ (.slice none 0 0)).cell? ⟨nb, 6, none⟩ = some (.slice z'.A3 q z'.d3) ∧ ((((((((((W.setCell ⟨w.heap.size + 1 + 1, 0, none⟩ (.int .i64 0)).setCell ⟨w.heap.size + 1 + 1, 1, none⟩ (.slice none 0 0)).setCell ⟨w.heap.size + 1 + 1, 2, none⟩ (.slice z'.A0 p z'.d0)).setCell ⟨w.heap.size + 1 + 1, 3, none⟩ (.slice z'.A1 n z'.d1)).setCell ⟨w.heap.size + 1 + 1, 4, none⟩ (.slice none 0 0)).setCell ⟨w.heap.size + 1 + 1, 5, none⟩ (.slice z'.A2 p z'.d2)).setCell ⟨w.heap.size + 1 + 1, 6, none⟩ (.slice z'.A3 q z'.d3)).setCell ⟨w.heap.size + 1 + 1, 7, none⟩ (.slice z'.A4 n z'.d4)).setCell ⟨w.heap.size + 1 + 1, 8, none⟩ (.slice none 0 0)).setCell ⟨w.heap.size + 1 + 1, 9, none⟩ (.slice none 0 0)).cell? ⟨nb, 7, none⟩ = some (.slice z'.A4 n z'.d4) ∧ ((((((((((W.setCell ⟨w.heap.size + 1 + 1, 0, none⟩ (.int .i64 0)).setCell ⟨w.heap.size + 1 + 1, 1, none⟩ (.slice none 0 0)).setCell ⟨w.heap.size + 1 + 1, 2, none⟩ (.slice z'.A0 p z'.d0)).setCell ⟨w.heap.size + 1 + 1, 3, none⟩ (.slice z'.A1 n z'.d1)).setCell ⟨w.heap.size + 1 + 1, 4, none⟩ (.slice none 0 0)).setCell ⟨w.heap.size + 1 + 1, 5, none⟩ (.slice z'.A2 p z'.d2)).setCell ⟨w.heap.size + 1 + 1, 6, none⟩ (.slice z'.A3 q z'.d3)).setCell ⟨w.heap.size + 1 + 1, 7, none⟩ (.slice z'.A4 n z'.d4)).setCell ⟨w.heap.size + 1 + 1, 8, none⟩ (.slice none 0 0)).setCell ⟨w.heap.size + 1 + 1, 9, none⟩ (.slice none 0 0)).cell? ⟨nb, 8, none⟩ = some (.slice none 0 0) ∧ ((((((((((W.setCell ⟨w.heap.size + 1 + 1, 0, none⟩ (.int .i64 0)).setCell ⟨w.heap.size + 1 + 1, 1, none⟩ (.slice none 0 0)).setCell ⟨w.heap.size + 1 + 1, 2, none⟩ (.slice z'.A0 p z'.d0)).setCell ⟨w.heap.size + 1 + 1, 3, none⟩ (.slice z'.A1 n z'.d1)).setCell ⟨w.heap.size + 1 + 1, 4, none⟩ (.slice none 0 0)).setCell ⟨w.heap.size + 1 + 1, 5, none⟩ (.slice z'.A2 p z'.d2)).setCell ⟨w.heap.size + 1 + 1, 6, none⟩ (.slice z'.A3 q z'.d3)).setCell ⟨w.heap.size + 1 + 1, 7, none⟩ (.slice z'.A4 n z'.d4)).setCell ⟨w.heap.size + 1 + 1, 8, none⟩ (.slice none 0 0)).setCell ⟨w.heap.size + 1 + 1, 9, none⟩ (.slice none 0 0)).cell? ⟨nb, 9, none⟩ = some (.slice none 0 0) := fun W h9 => cells10_keep W (w.heap.size + 1 + 1) nb (by omega) _ _ _ _ _ _ _ _ _ _ _ _ _ _ _ _ _ _ _ _ h9
  have KS := Lib.hid hks
  clear hks
  go_region_held3 (fun w' => w'.cell? ⟨nb, 0, none⟩ = some (.int .i64 0) ∧ w'.cell? ⟨nb, 1, none⟩ = some (.slice none 0 0) ∧ w'.cell? ⟨nb, 2, none⟩ = some (.slice z'.A0 p z'.d0) ∧ w'.cell? ⟨nb, 3, none⟩ = some (.slice z'.A1 n z'.d1) ∧ w'.cell? ⟨nb, 4, none⟩ = some (.slice none 0 0) ∧ w'.cell? ⟨nb, 5, none⟩ = some (.slice z'.A2 p z'.d2) ∧ w'.cell? ⟨nb, 6, none⟩ = some (.slice z'.A3 q z'.d3) ∧ w'.cell? ⟨nb, 7, none⟩ = some (.slice z'.A4 n z'.d4) ∧ w'.cell? ⟨nb, 8, none⟩ = some (.slice none 0 0) ∧ w'.cell? ⟨nb, 9, none⟩ = some (.slice none 0 0))
    (first | with_reducible exact ⟨n0, n1, n2, n3, n4, n5, n6, n7, n8, n9⟩ | with_reducible exact ⟨m0, m1, m2, m3, m4, m5, m6, m7, m8, m9⟩ | with_reducible exact KS.out _ ⟨m0, m1, m2, m3, m4, m5, m6, m7, m8, m9⟩ | go_keep)
    ((go_simp; with_reducible refine (HSM.out).mono ?_
      rintro e w7 ⟨rfl, kk, hkk⟩
      have k5 : Blk w7 nb 27 (mkC z' p q n) := by rw [hkk]; exact K5.out
      have k8 : Blk w7 (w.heap.size + 1 + 1) 27 zeroC := by rw [hkk]; exact K8.out
      have HKD := Lib.hid hkk
      clear hkk
      have m0 : w7.cell? ⟨nb, 0, none⟩ = some (.int .i64 0) := (k5.cell 0).trans rfl
      have m1 : w7.cell? ⟨nb, 1, none⟩ = some (.slice none 0 0) := (k5.cell 1).trans rfl
      have m2 : w7.cell? ⟨nb, 2, none⟩ = some (.slice z'.A0 p z'.d0) := (k5.cell 2).trans rfl
      have m3 : w7.cell? ⟨nb, 3, none⟩ = some (.slice z'.A1 n z'.d1) := (k5.cell 3).trans rfl
      have m4 : w7.cell? ⟨nb, 4, none⟩ = some (.slice none 0 0) := (k5.cell 4).trans rfl
      have m5 : w7.cell? ⟨nb, 5, none⟩ = some (.slice z'.A2 p z'.d2) := (k5.cell 5).trans rfl
      have m6 : w7.cell? ⟨nb, 6, none⟩ = some (.slice z'.A3 q z'.d3) := (k5.cell 6).trans rfl
      have m7 : w7.cell? ⟨nb, 7, none⟩ = some (.slice z'.A4 n z'.d4) := (k5.cell 7).trans rfl
      have m8 : w7.cell? ⟨nb, 8, none⟩ = some (.slice none 0 0) := (k5.cell 8).trans rfl
      have m9 : w7.cell? ⟨nb, 9, none⟩ = some (.slice none 0 0) := (k5.cell 9).trans rfl
      have t0 : w7.cell? ⟨w.heap.size + 1 + 1, 0, none⟩ = some (.int .i64 0) := (k8.cell 0).trans rfl
      have u0 : w7.frozen? ⟨w.heap.size + 1 + 1, 0, none⟩ = false := k8.frozen 0
      have t1 : w7.cell? ⟨w.heap.size + 1 + 1, 1, none⟩ = some (.slice none 0 0) := (k8.cell 1).trans rfl
      have u1 : w7.frozen? ⟨w.heap.size + 1 + 1, 1, none⟩ = false := k8.frozen 1
      have t2 : w7.cell? ⟨w.heap.size + 1 + 1, 2, none⟩ = some (.slice none 0 0) := (k8.cell 2).trans rfl
      have u2 : w7.frozen? ⟨w.heap.size + 1 + 1, 2, none⟩ = false := k8.frozen 2
      have t3 : w7.cell? ⟨w.heap.size + 1 + 1, 3, none⟩ = some (.slice none 0 0) := (k8.cell 3).trans rfl
      have u3 : w7.frozen? ⟨w.heap.size + 1 + 1, 3, none⟩ = false := k8.frozen 3
      have t4 : w7.cell? ⟨w.heap.size + 1 + 1, 4, none⟩ = some (.slice none 0 0) := (k8.cell 4).trans rfl
      have u4 : w7.frozen? ⟨w.heap.size + 1 + 1, 4, none⟩ = false := k8.frozen 4
      have t5 : w7.cell? ⟨w.heap.size + 1 + 1, 5, none⟩ = some (.slice none 0 0) := (k8.cell 5).trans rfl
      have u5 : w7.frozen? ⟨w.heap.size + 1 + 1, 5, none⟩ = false := k8.frozen 5
      have t6 : w7.cell? ⟨w.heap.size + 1 + 1, 6, none⟩ = some (.slice none 0 0) := (k8.cell 6).trans rfl
      have u6 : w7.frozen? ⟨w.heap.size + 1 + 1, 6, none⟩ = false := k8.frozen 6
      have t7 : w7.cell? ⟨w.heap.size + 1 + 1, 7, none⟩ = some (.slice none 0 0) := (k8.cell 7).trans rfl
      have u7 : w7.frozen? ⟨w.heap.size + 1 + 1, 7, none⟩ = false := k8.frozen 7
      have t8 : w7.cell? ⟨w.heap.size + 1 + 1, 8, none⟩ = some (.slice none 0 0) := (k8.cell 8).trans rfl
      have u8 : w7.frozen? ⟨w.heap.size + 1 + 1, 8, none⟩ = false := k8.frozen 8
      have t9 : w7.cell? ⟨w.heap.size + 1 + 1, 9, none⟩ = some (.slice none 0 0) := (k8.cell 9).trans rfl
      have u9 : w7.frozen? ⟨w.heap.size + 1 + 1, 9, none⟩ = false := k8.frozen 9
      skip))
  all_goals
    clear n0 n1 n2 n3 n4 n5 n6 n7 n8 n9 m0 m1 m2 m3 m4 m5 m6 m7 m8 m9
    go_wp2_with fail
    have hE : MuPost w B h E p q n s2 (.returned (.tuple #[.agg (mkC z' p q n), .bool true])) ((((((((((w7.setCell ⟨w.heap.size + 1 + 1, 0, none⟩ (.int .i64 0)).setCell ⟨w.heap.size + 1 + 1, 1, none⟩ (.slice none 0 0)).setCell ⟨w.heap.size + 1 + 1, 2, none⟩ (.slice z'.A0 p z'.d0)).setCell ⟨w.heap.size + 1 + 1, 3, none⟩ (.slice z'.A1 n z'.d1)).setCell ⟨w.heap.size + 1 + 1, 4, none⟩ (.slice none 0 0)).setCell ⟨w.heap.size + 1 + 1, 5, none⟩ (.slice z'.A2 p z'.d2)).setCell ⟨w.heap.size + 1 + 1, 6, none⟩ (.slice z'.A3 q z'.d3)).setCell ⟨w.heap.size + 1 + 1, 7, none⟩ (.slice z'.A4 n z'.d4)).setCell ⟨w.heap.size + 1 + 1, 8, none⟩ (.slice none 0 0)).setCell ⟨w.heap.size + 1 + 1, 9, none⟩ (.slice none 0 0)) ∧ Blk ((((((((((w7.setCell ⟨w.heap.size + 1 + 1, 0, none⟩ (.int .i64 0)).setCell ⟨w.heap.size + 1 + 1, 1, none⟩ (.slice none 0 0)).setCell ⟨w.heap.size + 1 + 1, 2, none⟩ (.slice z'.A0 p z'.d0)).setCell ⟨w.heap.size + 1 + 1, 3, none⟩ (.slice z'.A1 n z'.d1)).setCell ⟨w.heap.size + 1 + 1, 4, none⟩ (.slice none 0 0)).setCell ⟨w.heap.size + 1 + 1, 5, none⟩ (.slice z'.A2 p z'.d2)).setCell ⟨w.heap.size + 1 + 1, 6, none⟩ (.slice z'.A3 q z'.d3)).setCell ⟨w.heap.size + 1 + 1, 7, none⟩ (.slice z'.A4 n z'.d4)).setCell ⟨w.heap.size + 1 + 1, 8, none⟩ (.slice none 0 0)).setCell ⟨w.heap.size + 1 + 1, 9, none⟩ (.slice none 0 0)) (w.heap.size + 1 + 1) 27 (mkC z' p q n) := by
      rw [HKD.out]
      exact mu_drewN (mu_drewN HE.out 1) kk
    refine bodyPost_ret (v := .tuple #[.agg (mkC z' p q n), .bool true]) (res9_1 rfl _ _ (w.heap.size + 1 + 1) 27 _ (0, 0) _ _ rfl rfl hE.2 Try.underlying27 rfl (by kernel_rfl)) rfl hE.1
end Go.Proofs.Ytikelkfinjcgaaa
