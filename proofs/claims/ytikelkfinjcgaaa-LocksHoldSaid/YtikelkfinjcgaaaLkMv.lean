
/-
  The law's mutexes, of both: Wait, Signal.
-/
import Derived.Test.YtikelkfinjcgaaaLkMu
set_option linter.unusedVariables false
set_option linter.unusedSimpArgs false
namespace Go.Proofs.Ytikelkfinjcgaaa
open Go.RowKit Plain

set_option maxRecDepth 100000 in
set_option maxHeartbeats 8000000 in
theorem mutexes_wait (w : World) (B : Nat) (h : LkH) (E : Nat → Prop) (z : LkQ) (p q n : Nat) (s : Lk) (tv x t : Int) (hl : LkM w B h s) (hd : DocC w E z p q n s) {K : Nat} (O : LkOk K s) (hK : K ≤ 100000) (hE : ∀ k, E k → k < w.heap.size → ¬ h.W k) (hx1 : -9223372036854775808 ≤ x) (hx2 : x ≤ 9223372036854775807) (ht : 0 ≤ t) (ht2 : t ≤ 1000000) (hp : 0 < p) (hp2 : p ≤ 8) (m : Nat) (hmx : aroundV x p = (m : Int)) (c m2 : Nat) (hq : 0 < q) (hq2 : q ≤ 8) (hcx : aroundV x q = (c : Int)) (hm2 : c % p = m2) (hT : tot s.lq + tot s.wq + tot s.dq + 1 ≤ K) (s2 : Lk) (a1 a2 : Int) (hsb : waitV s c m2 t = (s2, a1, a2)):
    Calls Try.prog 25 #[.pointer (some ⟨h.g, 0, none⟩), .agg (mkC z p q n), .agg #[.int .i64 2, .int .i64 tv, .int .i64 x], .int .i64 t] w (MuPost w B h E p q n s2) := by
  have hdw := MuW.new w 2 tv x hl hd
  obtain ⟨W3, hW3⟩ : ∃ W, W = (((w.alloc (.cells (mkC z p q n) 27)).alloc (.cells #[.int .i64 2, .int .i64 tv, .int .i64 x] 34)).alloc (.cells zeroC 27)) := ⟨_, rfl⟩
  rw [← hW3] at hdw
  have hgb := hl.box.lt
  have hlo := hd.lo; have hll := hd.ll; have hlw := hd.lw
  have HDW := Lib.hid hdw; have HW3 := Lib.hid hW3; have HGB := Lib.hid hgb
  have hp0 : (0 : Int) < (p : Int) := by omega
  have hmm := aroundV_lt (n := x) hp0
  rw [hmx] at hmm
  have hm : m < p := by omega
  have har := fun W => around_any x p W hx1 hx2 hp0 (by omega)
  rw [hmx] at har
  have HAR := Lib.hid har
  obtain ⟨x0, x1, x2, x3, x4, x5, x6, x7, x8, x9⟩ := blk10 hdw.b5
  have d0 : W3.cell? ⟨w.heap.size + 1, 0, none⟩ = some (.int .i64 2) := (hdw.b6.cell 0).trans rfl
  have d1 : W3.cell? ⟨w.heap.size + 1, 1, none⟩ = some (.int .i64 tv) := (hdw.b6.cell 1).trans rfl
  have d2 : W3.cell? ⟨w.heap.size + 1, 2, none⟩ = some (.int .i64 x) := (hdw.b6.cell 2).trans rfl
  have hq0 : (0 : Int) < (q : Int) := by omega
  have hcc := aroundV_lt (n := x) hq0
  rw [hcx] at hcc
  have hc : c < q := by omega
  have haq := fun W => around_any x q W hx1 hx2 hq0 (by omega)
  rw [hcx] at haq
  have HAQ := Lib.hid haq
  have hrem : (c : Int).tmod (p : Int) = (m2 : Int) := by rw [← hm2]; exact (Int.ofNat_tmod c p).symm
  have hm2p : m2 < p := by rw [← hm2]; exact Nat.mod_lt _ hp
  have hpz : ¬ (p : Int) = 0 := by omega
  clear hcc haq hm2
  clear hl hd hdw hW3 hgb hmm har hlo hll hlw
  go_enter Try.func25, Try.ntmps25
  go_upto_region 1 with fail
  rw [← HW3.out]
  clear HW3
  go_wp2_with fail
  refine (HAR.out _).mono ?_
  rintro e w4 ⟨rfl, rfl⟩
  clear HAR
  go_wp2_with fail
  refine (HAQ.out _).mono ?_
  rintro e w4 ⟨rfl, rfl⟩
  clear HAQ
  have hlo := HDW.out.dc.lo
  have hlw := HDW.out.dc.lw
  have hmo : m2 < s.own.length := by omega
  have hwo : c < s.wq.length := by omega
  have hmn : -1 ≤ gn s.own m2 := (O.own _ (gn_mem hmo)).1
  have hc : ∀ W, LkM W B { h with X := fun k => h.X k ∨ k = w.heap.size + 1 + 1 } s → Calls Try.prog 20 #[.pointer (some ⟨h.g, 0, none⟩), .int .i64 (c : Int), .int .i64 (m2 : Int), .int .i64 t] W (fun e w' => e = .returned (.tuple #[.int .i64 (waitV s c m2 t).2.1, .int .i64 (waitV s c m2 t).2.2]) ∧ LkM w' B { h with X := fun k => h.X k ∨ k = w.heap.size + 1 + 1 } ((waitV s c m2 t).1) ∧ Fr h.W W w') := fun W hl => wait_any hl O (by omega) c m2 hwo hmo t ht ht2 hT
  have hdb : ∀ k, (ME w E) k → k < w.heap.size + 1 + 1 + 1 ∨ w.heap.size + 1 + 1 + 1 ≤ k → ¬ h.W k := fun k hk _ e => by
    have := HDW.out.hW k e
    rcases hk with hk | hk
    · exact hE k hk.1 hk.2 e
    · omega
  have HC := Lib.hid hc; have HDB := Lib.hid hdb
  clear hc hdb
  have hdoc := docWait W3 _ z p q n s HDW.out.dc (SzL.of O hK) c m2 hc hm2p t
  rw [hsb] at hdoc HC
  have HDC := Lib.hid hdoc
  clear hdoc hmn hmo hwo hlo hlw hsb O hE
  go_wp2_with fail
  refine (HDC.out).mono ?_
  rintro e w4 ⟨z', rfl, hd4, hb⟩
  have zb := hb.size
  obtain ⟨nb, hnb⟩ : ∃ b, b = w4.heap.size := ⟨_, rfl⟩
  have hsz := HDW.out.sz
  have hb5 := Blk.new w4 27 (mkC z' p q n)
  have hb6 := (HDW.out.b6.below hb (by omega)).alloc (.cells (mkC z' p q n) 27)
  have hb8 := (HDW.out.b8.below hb (by omega)).alloc (.cells (mkC z' p q n) 27)
  have hl4 := (HDW.out.lk.below hb (Nat.le_refl _)).alloc (.cells (mkC z' p q n) 27)
  have hd5 : DocC (w4.alloc (.cells (mkC z' p q n) 27)) (ME w E) z' p q n s2 := (hd4.mono (E' := ME w E) (fun k hk _ => by rcases hk with hk | hk; exact .inl hk.1; exact .inr (by omega))).below ((Below.refl _ w4).alloc (Nat.le_refl _) _) (Nat.le_refl _)
  have hbel := (HDW.out.bel.trans (hb.mono (by omega))).alloc (by omega) (.cells (mkC z' p q n) 27)
  obtain ⟨W5, hW5⟩ : ∃ W, W = w4.alloc (.cells (mkC z' p q n) 27) := ⟨_, rfl⟩
  rw [← hW5] at hb5 hb6 hb8 hl4 hd5 hbel
  rw [← hnb] at hb5
  have H5 := Lib.hid hb5; have H6 := Lib.hid hb6; have H8 := Lib.hid hb8; have HL := Lib.hid hl4; have HD := Lib.hid hd5; have HBEL := Lib.hid hbel; have HW5 := Lib.hid hW5; have HNB := Lib.hid hnb; have HW := Lib.hid HDW.out.hW
  have zn : w.heap.size + 1 + 1 < nb := by omega
  have zn5 := hb5.lt
  clear x0 x1 x2 x3 x4 x5 x6 x7 x8 x9 d0 d1 d2 hb5 hb6 hb8 hl4 hd4 hd5 hbel hb hW5 hnb hsz HDW zb
  go_upto_region 16 with fail
  rw [← HW5.out, ← HNB.out]
  clear HW5 HNB
  have hc5 := HC.out W5 HL.out
  have HC5 := Lib.hid hc5
  clear hc5 HC
  go_wp2_with fail
  refine HC5.out.mono ?_
  rintro e w6 ⟨rfl, hq, hf⟩

  have k5 := hf.blk H5.out (fun e => by have := HW.out _ e; omega)
  have k8 := hf.blk H8.out (fun e => by have := HW.out _ e; omega)
  have hE := mu_end (E := E) k8 hq (HD.out.fr hf (fun i hi _ e => HDB.out i hi (by omega) e)) (((Fr.of_below HBEL.out).mono (S := h.W) (fun i hi e => by omega)).trans hf (fun i _ e => e)) HGB.out HW.out
  have m0 : w6.cell? ⟨nb, 0, none⟩ = some (.int .i64 0) := (k5.cell 0).trans rfl
  have m1 : w6.cell? ⟨nb, 1, none⟩ = some (.slice none 0 0) := (k5.cell 1).trans rfl
  have m2 : w6.cell? ⟨nb, 2, none⟩ = some (.slice z'.A0 p z'.d0) := (k5.cell 2).trans rfl
  have m3 : w6.cell? ⟨nb, 3, none⟩ = some (.slice z'.A1 n z'.d1) := (k5.cell 3).trans rfl
  have m4 : w6.cell? ⟨nb, 4, none⟩ = some (.slice none 0 0) := (k5.cell 4).trans rfl
  have m5 : w6.cell? ⟨nb, 5, none⟩ = some (.slice z'.A2 p z'.d2) := (k5.cell 5).trans rfl
  have m6 : w6.cell? ⟨nb, 6, none⟩ = some (.slice z'.A3 q z'.d3) := (k5.cell 6).trans rfl
  have m7 : w6.cell? ⟨nb, 7, none⟩ = some (.slice z'.A4 n z'.d4) := (k5.cell 7).trans rfl
  have m8 : w6.cell? ⟨nb, 8, none⟩ = some (.slice none 0 0) := (k5.cell 8).trans rfl
  have m9 : w6.cell? ⟨nb, 9, none⟩ = some (.slice none 0 0) := (k5.cell 9).trans rfl
  have t0 : w6.cell? ⟨w.heap.size + 1 + 1, 0, none⟩ = some (.int .i64 0) := (k8.cell 0).trans rfl
  have u0 : w6.frozen? ⟨w.heap.size + 1 + 1, 0, none⟩ = false := k8.frozen 0
  have t1 : w6.cell? ⟨w.heap.size + 1 + 1, 1, none⟩ = some (.slice none 0 0) := (k8.cell 1).trans rfl
  have u1 : w6.frozen? ⟨w.heap.size + 1 + 1, 1, none⟩ = false := k8.frozen 1
  have t2 : w6.cell? ⟨w.heap.size + 1 + 1, 2, none⟩ = some (.slice none 0 0) := (k8.cell 2).trans rfl
  have u2 : w6.frozen? ⟨w.heap.size + 1 + 1, 2, none⟩ = false := k8.frozen 2
  have t3 : w6.cell? ⟨w.heap.size + 1 + 1, 3, none⟩ = some (.slice none 0 0) := (k8.cell 3).trans rfl
  have u3 : w6.frozen? ⟨w.heap.size + 1 + 1, 3, none⟩ = false := k8.frozen 3
  have t4 : w6.cell? ⟨w.heap.size + 1 + 1, 4, none⟩ = some (.slice none 0 0) := (k8.cell 4).trans rfl
  have u4 : w6.frozen? ⟨w.heap.size + 1 + 1, 4, none⟩ = false := k8.frozen 4
  have t5 : w6.cell? ⟨w.heap.size + 1 + 1, 5, none⟩ = some (.slice none 0 0) := (k8.cell 5).trans rfl
  have u5 : w6.frozen? ⟨w.heap.size + 1 + 1, 5, none⟩ = false := k8.frozen 5
  have t6 : w6.cell? ⟨w.heap.size + 1 + 1, 6, none⟩ = some (.slice none 0 0) := (k8.cell 6).trans rfl
  have u6 : w6.frozen? ⟨w.heap.size + 1 + 1, 6, none⟩ = false := k8.frozen 6
  have t7 : w6.cell? ⟨w.heap.size + 1 + 1, 7, none⟩ = some (.slice none 0 0) := (k8.cell 7).trans rfl
  have u7 : w6.frozen? ⟨w.heap.size + 1 + 1, 7, none⟩ = false := k8.frozen 7
  have t8 : w6.cell? ⟨w.heap.size + 1 + 1, 8, none⟩ = some (.slice none 0 0) := (k8.cell 8).trans rfl
  have u8 : w6.frozen? ⟨w.heap.size + 1 + 1, 8, none⟩ = false := k8.frozen 8
  have t9 : w6.cell? ⟨w.heap.size + 1 + 1, 9, none⟩ = some (.slice none 0 0) := (k8.cell 9).trans rfl
  have u9 : w6.frozen? ⟨w.heap.size + 1 + 1, 9, none⟩ = false := k8.frozen 9
  have HE := Lib.hid hE
  clear hE hq hf HL HD HBEL HDB k5 k8 H5 H6 H8 HC5
  go_wp2_with fail

  refine bodyPost_ret (v := .tuple #[.agg (mkC z' p q n), .bool true]) (res9_1 rfl _ _ (w.heap.size + 1 + 1) 27 _ (0, 0) _ _ rfl rfl HE.out.2 Try.underlying27 rfl (by kernel_rfl)) rfl HE.out.1
set_option maxRecDepth 100000 in
set_option maxHeartbeats 8000000 in
theorem mutexes_signal (w : World) (B : Nat) (h : LkH) (E : Nat → Prop) (z : LkQ) (p q n : Nat) (s : Lk) (tv x t : Int) (hl : LkM w B h s) (hd : DocC w E z p q n s) {K : Nat} (O : LkOk K s) (hK : K ≤ 100000) (hE : ∀ k, E k → k < w.heap.size → ¬ h.W k) (hx1 : -9223372036854775808 ≤ x) (hx2 : x ≤ 9223372036854775807) (ht : 0 ≤ t) (ht2 : t ≤ 1000000) (hp : 0 < p) (hp2 : p ≤ 8) (m : Nat) (hmx : aroundV x p = (m : Int)) (c m2 : Nat) (hq : 0 < q) (hq2 : q ≤ 8) (hcx : aroundV x q = (c : Int)) (hm2 : c % p = m2) (s2 : Lk) (a1 : Int) (a2 : Bool) (hsb : signalV s c m2 = (s2, a1, a2)):
    Calls Try.prog 25 #[.pointer (some ⟨h.g, 0, none⟩), .agg (mkC z p q n), .agg #[.int .i64 3, .int .i64 tv, .int .i64 x], .int .i64 t] w (MuPost w B h E p q n s2) := by
  have hdw := MuW.new w 3 tv x hl hd
  obtain ⟨W3, hW3⟩ : ∃ W, W = (((w.alloc (.cells (mkC z p q n) 27)).alloc (.cells #[.int .i64 3, .int .i64 tv, .int .i64 x] 34)).alloc (.cells zeroC 27)) := ⟨_, rfl⟩
  rw [← hW3] at hdw
  have hgb := hl.box.lt
  have hlo := hd.lo; have hll := hd.ll; have hlw := hd.lw
  have HDW := Lib.hid hdw; have HW3 := Lib.hid hW3; have HGB := Lib.hid hgb
  have hp0 : (0 : Int) < (p : Int) := by omega
  have hmm := aroundV_lt (n := x) hp0
  rw [hmx] at hmm
  have hm : m < p := by omega
  have har := fun W => around_any x p W hx1 hx2 hp0 (by omega)
  rw [hmx] at har
  have HAR := Lib.hid har
  obtain ⟨x0, x1, x2, x3, x4, x5, x6, x7, x8, x9⟩ := blk10 hdw.b5
  have d0 : W3.cell? ⟨w.heap.size + 1, 0, none⟩ = some (.int .i64 3) := (hdw.b6.cell 0).trans rfl
  have d1 : W3.cell? ⟨w.heap.size + 1, 1, none⟩ = some (.int .i64 tv) := (hdw.b6.cell 1).trans rfl
  have d2 : W3.cell? ⟨w.heap.size + 1, 2, none⟩ = some (.int .i64 x) := (hdw.b6.cell 2).trans rfl
  have hq0 : (0 : Int) < (q : Int) := by omega
  have hcc := aroundV_lt (n := x) hq0
  rw [hcx] at hcc
  have hc : c < q := by omega
  have haq := fun W => around_any x q W hx1 hx2 hq0 (by omega)
  rw [hcx] at haq
  have HAQ := Lib.hid haq
  have hrem : (c : Int).tmod (p : Int) = (m2 : Int) := by rw [← hm2]; exact (Int.ofNat_tmod c p).symm
  have hm2p : m2 < p := by rw [← hm2]; exact Nat.mod_lt _ hp
  have hpz : ¬ (p : Int) = 0 := by omega
  clear hcc haq hm2
  clear hl hd hdw hW3 hgb hmm har hlo hll hlw
  go_enter Try.func25, Try.ntmps25
  go_upto_region 1 with fail
  rw [← HW3.out]
  clear HW3
  go_wp2_with fail
  refine (HAR.out _).mono ?_
  rintro e w4 ⟨rfl, rfl⟩
  clear HAR
  go_wp2_with fail
  refine (HAQ.out _).mono ?_
  rintro e w4 ⟨rfl, rfl⟩
  clear HAQ
  have hlo := HDW.out.dc.lo
  have hlw := HDW.out.dc.lw
  have hmo : m2 < s.own.length := by omega
  have hwo : c < s.wq.length := by omega
  have hmn : -1 ≤ gn s.own m2 := (O.own _ (gn_mem hmo)).1
  have hc : ∀ W, LkM W B { h with X := fun k => h.X k ∨ k = w.heap.size + 1 + 1 } s → Calls Try.prog 21 #[.pointer (some ⟨h.g, 0, none⟩), .int .i64 (c : Int), .int .i64 (m2 : Int)] W (fun e w' => e = .returned (.tuple #[.int .i64 (signalV s c m2).2.1, .bool (signalV s c m2).2.2]) ∧ LkM w' B { h with X := fun k => h.X k ∨ k = w.heap.size + 1 + 1 } ((signalV s c m2).1) ∧ Fr h.W W w') := fun W hl => signal_any hl O (by omega) c m2 hwo hmo
  have hdb : ∀ k, (ME w E) k → k < w.heap.size + 1 + 1 + 1 ∨ w.heap.size + 1 + 1 + 1 ≤ k → ¬ h.W k := fun k hk _ e => by
    have := HDW.out.hW k e
    rcases hk with hk | hk
    · exact hE k hk.1 hk.2 e
    · omega
  have HC := Lib.hid hc; have HDB := Lib.hid hdb
  clear hc hdb
  have hdoc := docSignal W3 _ z p q n s HDW.out.dc (SzL.of O hK) c m2 hc hm2p hmn
  rw [hsb] at hdoc HC
  have HDC := Lib.hid hdoc
  clear hdoc hmn hmo hwo hlo hlw hsb O hE
  go_wp2_with fail
  refine (HDC.out).mono ?_
  rintro e w4 ⟨z', rfl, hd4, hb⟩
  have zb := hb.size
  obtain ⟨nb, hnb⟩ : ∃ b, b = w4.heap.size := ⟨_, rfl⟩
  have hsz := HDW.out.sz
  have hb5 := Blk.new w4 27 (mkC z' p q n)
  have hb6 := (HDW.out.b6.below hb (by omega)).alloc (.cells (mkC z' p q n) 27)
  have hb8 := (HDW.out.b8.below hb (by omega)).alloc (.cells (mkC z' p q n) 27)
  have hl4 := (HDW.out.lk.below hb (Nat.le_refl _)).alloc (.cells (mkC z' p q n) 27)
  have hd5 : DocC (w4.alloc (.cells (mkC z' p q n) 27)) (ME w E) z' p q n s2 := (hd4.mono (E' := ME w E) (fun k hk _ => by rcases hk with hk | hk; exact .inl hk.1; exact .inr (by omega))).below ((Below.refl _ w4).alloc (Nat.le_refl _) _) (Nat.le_refl _)
  have hbel := (HDW.out.bel.trans (hb.mono (by omega))).alloc (by omega) (.cells (mkC z' p q n) 27)
  obtain ⟨W5, hW5⟩ : ∃ W, W = w4.alloc (.cells (mkC z' p q n) 27) := ⟨_, rfl⟩
  rw [← hW5] at hb5 hb6 hb8 hl4 hd5 hbel
  rw [← hnb] at hb5
  have H5 := Lib.hid hb5; have H6 := Lib.hid hb6; have H8 := Lib.hid hb8; have HL := Lib.hid hl4; have HD := Lib.hid hd5; have HBEL := Lib.hid hbel; have HW5 := Lib.hid hW5; have HNB := Lib.hid hnb; have HW := Lib.hid HDW.out.hW
  have zn : w.heap.size + 1 + 1 < nb := by omega
  have zn5 := hb5.lt
  clear x0 x1 x2 x3 x4 x5 x6 x7 x8 x9 d0 d1 d2 hb5 hb6 hb8 hl4 hd4 hd5 hbel hb hW5 hnb hsz HDW zb
  go_upto_region 20 with fail
  rw [← HW5.out, ← HNB.out]
  clear HW5 HNB
  have hc5 := HC.out W5 HL.out
  have HC5 := Lib.hid hc5
  clear hc5 HC
  go_wp2_with fail
  refine HC5.out.mono ?_
  rintro e w6 ⟨rfl, hq, hf⟩

  have k5 := hf.blk H5.out (fun e => by have := HW.out _ e; omega)
  have k8 := hf.blk H8.out (fun e => by have := HW.out _ e; omega)
  have hE := mu_end (E := E) k8 hq (HD.out.fr hf (fun i hi _ e => HDB.out i hi (by omega) e)) (((Fr.of_below HBEL.out).mono (S := h.W) (fun i hi e => by omega)).trans hf (fun i _ e => e)) HGB.out HW.out
  have m0 : w6.cell? ⟨nb, 0, none⟩ = some (.int .i64 0) := (k5.cell 0).trans rfl
  have m1 : w6.cell? ⟨nb, 1, none⟩ = some (.slice none 0 0) := (k5.cell 1).trans rfl
  have m2 : w6.cell? ⟨nb, 2, none⟩ = some (.slice z'.A0 p z'.d0) := (k5.cell 2).trans rfl
  have m3 : w6.cell? ⟨nb, 3, none⟩ = some (.slice z'.A1 n z'.d1) := (k5.cell 3).trans rfl
  have m4 : w6.cell? ⟨nb, 4, none⟩ = some (.slice none 0 0) := (k5.cell 4).trans rfl
  have m5 : w6.cell? ⟨nb, 5, none⟩ = some (.slice z'.A2 p z'.d2) := (k5.cell 5).trans rfl
  have m6 : w6.cell? ⟨nb, 6, none⟩ = some (.slice z'.A3 q z'.d3) := (k5.cell 6).trans rfl
  have m7 : w6.cell? ⟨nb, 7, none⟩ = some (.slice z'.A4 n z'.d4) := (k5.cell 7).trans rfl
  have m8 : w6.cell? ⟨nb, 8, none⟩ = some (.slice none 0 0) := (k5.cell 8).trans rfl
  have m9 : w6.cell? ⟨nb, 9, none⟩ = some (.slice none 0 0) := (k5.cell 9).trans rfl
  have t0 : w6.cell? ⟨w.heap.size + 1 + 1, 0, none⟩ = some (.int .i64 0) := (k8.cell 0).trans rfl
  have u0 : w6.frozen? ⟨w.heap.size + 1 + 1, 0, none⟩ = false := k8.frozen 0
  have t1 : w6.cell? ⟨w.heap.size + 1 + 1, 1, none⟩ = some (.slice none 0 0) := (k8.cell 1).trans rfl
  have u1 : w6.frozen? ⟨w.heap.size + 1 + 1, 1, none⟩ = false := k8.frozen 1
  have t2 : w6.cell? ⟨w.heap.size + 1 + 1, 2, none⟩ = some (.slice none 0 0) := (k8.cell 2).trans rfl
  have u2 : w6.frozen? ⟨w.heap.size + 1 + 1, 2, none⟩ = false := k8.frozen 2
  have t3 : w6.cell? ⟨w.heap.size + 1 + 1, 3, none⟩ = some (.slice none 0 0) := (k8.cell 3).trans rfl
  have u3 : w6.frozen? ⟨w.heap.size + 1 + 1, 3, none⟩ = false := k8.frozen 3
  have t4 : w6.cell? ⟨w.heap.size + 1 + 1, 4, none⟩ = some (.slice none 0 0) := (k8.cell 4).trans rfl
  have u4 : w6.frozen? ⟨w.heap.size + 1 + 1, 4, none⟩ = false := k8.frozen 4
  have t5 : w6.cell? ⟨w.heap.size + 1 + 1, 5, none⟩ = some (.slice none 0 0) := (k8.cell 5).trans rfl
  have u5 : w6.frozen? ⟨w.heap.size + 1 + 1, 5, none⟩ = false := k8.frozen 5
  have t6 : w6.cell? ⟨w.heap.size + 1 + 1, 6, none⟩ = some (.slice none 0 0) := (k8.cell 6).trans rfl
  have u6 : w6.frozen? ⟨w.heap.size + 1 + 1, 6, none⟩ = false := k8.frozen 6
  have t7 : w6.cell? ⟨w.heap.size + 1 + 1, 7, none⟩ = some (.slice none 0 0) := (k8.cell 7).trans rfl
  have u7 : w6.frozen? ⟨w.heap.size + 1 + 1, 7, none⟩ = false := k8.frozen 7
  have t8 : w6.cell? ⟨w.heap.size + 1 + 1, 8, none⟩ = some (.slice none 0 0) := (k8.cell 8).trans rfl
  have u8 : w6.frozen? ⟨w.heap.size + 1 + 1, 8, none⟩ = false := k8.frozen 8
  have t9 : w6.cell? ⟨w.heap.size + 1 + 1, 9, none⟩ = some (.slice none 0 0) := (k8.cell 9).trans rfl
  have u9 : w6.frozen? ⟨w.heap.size + 1 + 1, 9, none⟩ = false := k8.frozen 9
  have HE := Lib.hid hE
  clear hE hq hf HL HD HBEL HDB k5 k8 H5 H6 H8 HC5
  go_wp2_with fail

  refine bodyPost_ret (v := .tuple #[.agg (mkC z' p q n), .bool true]) (res9_1 rfl _ _ (w.heap.size + 1 + 1) 27 _ (0, 0) _ _ rfl rfl HE.out.2 Try.underlying27 rfl (by kernel_rfl)) rfl HE.out.1
end Go.Proofs.Ytikelkfinjcgaaa
