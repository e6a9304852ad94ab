
/-
  The law's mutexes, of both: does.
-/
import Derived.Test.YtikelkfinjcgaaaLkMx
set_option linter.unusedVariables false
set_option linter.unusedSimpArgs false
namespace Go.Proofs.Ytikelkfinjcgaaa
open Go.RowKit Plain

theorem MuW.later {w W W' : World} {B : Nat} {h : LkH} {E : Nat → Prop} {z : LkQ} {p q n : Nat} {s : Lk} {kind tv x : Int} (H : MuW w W B h E z p q n s kind tv x) (hb : Below W.heap.size W W') : MuW w W' B h E z p q n s kind tv x :=
  ⟨H.b5.below hb H.b5.lt, H.b6.below hb H.b6.lt, H.b8.below hb H.b8.lt, H.lk.below hb (Nat.le_refl _), H.dc.below hb (Nat.le_refl _), H.bel.trans (hb.mono H.bel.size), H.hW, Nat.le_trans H.sz hb.size⟩
set_option maxRecDepth 100000 in
set_option maxHeartbeats 8000000 in
theorem does_p0 (w : World) (B : Nat) (h : LkH) (E : Nat → Prop) (z : LkQ) (q n : Nat) (s : Lk) (tv x : Int) (hl : LkM w B h s) (hd : DocC w E z 0 q n s) {K : Nat} (O : LkOk K s) (hK : K ≤ 100000) (hE : ∀ k, E k → k < w.heap.size → ¬ h.W k) (hx1 : -9223372036854775808 ≤ x) (hx2 : x ≤ 9223372036854775807) (ht1 : -9223372036854775808 ≤ tv) (ht2 : tv ≤ 9223372036854775807) (kind : Int) (hk0 : 0 ≤ kind) (hk4 : kind ≤ 4):
    Calls Try.prog 9 #[.pointer (some ⟨h.g, 0, none⟩), .agg (mkC z 0 q n), .agg #[.int .i64 kind, .int .i64 tv, .int .i64 x]] w (fun e w' => MuPost w B h E 0 q n s e w' ∨ MuPost w B h E 0 q n s e w') := by
  have hdw := MuW.new w kind tv x hl hd
  obtain ⟨W3, hW3⟩ : ∃ W, W = (((w.alloc (.cells (mkC z 0 q n) 27)).alloc (.cells #[.int .i64 kind, .int .i64 tv, .int .i64 x] 34)).alloc (.cells zeroC 27)) := ⟨_, rfl⟩
  rw [← hW3] at hdw
  have hgb := hl.box.lt
  have HDW0 := Lib.hid hdw; have HW3 := Lib.hid hW3; have HGB := Lib.hid hgb
  have htt := aroundV_lt (n := tv) (show (0 : Int) < 8 by omega)
  have har := fun W => around_any tv 8 W ht1 ht2 (by omega) (by omega)
  generalize aroundV tv 8 = t at *
  have HAR := Lib.hid har
  have hwa := lawWaits_any W3 _ z 0 q n s hdw.dc (SzL.of O hK) t
  have HWA := Lib.hid hwa
  have HEE := Lib.hid hE; have HO := Lib.hid O; have HK := Lib.hid hK; have HTT := Lib.hid htt
  obtain ⟨x0, x1, x2, x3, x4, x5, x6, x7, x8, x9⟩ := blk10 hdw.b5
  have d0 : W3.cell? ⟨w.heap.size + 1, 0, none⟩ = some (.int .i64 kind) := (hdw.b6.cell 0).trans rfl
  have d1 : W3.cell? ⟨w.heap.size + 1, 1, none⟩ = some (.int .i64 tv) := (hdw.b6.cell 1).trans rfl
  have d2 : W3.cell? ⟨w.heap.size + 1, 2, none⟩ = some (.int .i64 x) := (hdw.b6.cell 2).trans rfl
  clear hl hd hdw hW3 hgb har hwa hE O hK htt ht1 ht2
  go_enter Try.func9, Try.ntmps9
  go_upto_region 1 with fail
  rw [← HW3.out]
  clear HW3
  go_wp2_with fail
  refine (HAR.out _).mono ?_
  rintro e w4 ⟨rfl, rfl⟩
  clear HAR
  go_wp2_with fail
  refine (HWA.out).mono ?_
  rintro e W3 ⟨bw, rfl, hb4⟩
  have hdw4 : MuW w W3 B h E z 0 q n s kind tv x := HDW0.out.later hb4
  have HDW := Lib.hid hdw4
  clear HWA HDW0 x0 x1 x2 x3 x4 x5 x6 x7 x8 x9 d0 d1 d2 hb4
  obtain ⟨x0, x1, x2, x3, x4, x5, x6, x7, x8, x9⟩ := blk10 hdw4.b5
  have d0 : W3.cell? ⟨w.heap.size + 1, 0, none⟩ = some (.int .i64 kind) := (hdw4.b6.cell 0).trans rfl
  have d1 : W3.cell? ⟨w.heap.size + 1, 1, none⟩ = some (.int .i64 tv) := (hdw4.b6.cell 1).trans rfl
  have d2 : W3.cell? ⟨w.heap.size + 1, 2, none⟩ = some (.int .i64 x) := (hdw4.b6.cell 2).trans rfl
  clear hdw4
  cases bw with
  | true =>
    have hE := mu_end (E := E) HDW.out.b8 HDW.out.lk (HDW.out.dc.mono (E' := ME w E) (fun i hi _ => .inl hi)) ((Fr.of_below HDW.out.bel).mono (S := h.W) (fun i hi e => by omega)) HGB.out HDW.out.hW
    have HE := Lib.hid hE
    have t0 : W3.cell? ⟨w.heap.size + 1 + 1, 0, none⟩ = some (.int .i64 0) := (HDW.out.b8.cell 0).trans rfl
    have u0 : W3.frozen? ⟨w.heap.size + 1 + 1, 0, none⟩ = false := HDW.out.b8.frozen 0
    have t1 : W3.cell? ⟨w.heap.size + 1 + 1, 1, none⟩ = some (.slice none 0 0) := (HDW.out.b8.cell 1).trans rfl
    have u1 : W3.frozen? ⟨w.heap.size + 1 + 1, 1, none⟩ = false := HDW.out.b8.frozen 1
    have t2 : W3.cell? ⟨w.heap.size + 1 + 1, 2, none⟩ = some (.slice none 0 0) := (HDW.out.b8.cell 2).trans rfl
    have u2 : W3.frozen? ⟨w.heap.size + 1 + 1, 2, none⟩ = false := HDW.out.b8.frozen 2
    have t3 : W3.cell? ⟨w.heap.size + 1 + 1, 3, none⟩ = some (.slice none 0 0) := (HDW.out.b8.cell 3).trans rfl
    have u3 : W3.frozen? ⟨w.heap.size + 1 + 1, 3, none⟩ = false := HDW.out.b8.frozen 3
    have t4 : W3.cell? ⟨w.heap.size + 1 + 1, 4, none⟩ = some (.slice none 0 0) := (HDW.out.b8.cell 4).trans rfl
    have u4 : W3.frozen? ⟨w.heap.size + 1 + 1, 4, none⟩ = false := HDW.out.b8.frozen 4
    have t5 : W3.cell? ⟨w.heap.size + 1 + 1, 5, none⟩ = some (.slice none 0 0) := (HDW.out.b8.cell 5).trans rfl
    have u5 : W3.frozen? ⟨w.heap.size + 1 + 1, 5, none⟩ = false := HDW.out.b8.frozen 5
    have t6 : W3.cell? ⟨w.heap.size + 1 + 1, 6, none⟩ = some (.slice none 0 0) := (HDW.out.b8.cell 6).trans rfl
    have u6 : W3.frozen? ⟨w.heap.size + 1 + 1, 6, none⟩ = false := HDW.out.b8.frozen 6
    have t7 : W3.cell? ⟨w.heap.size + 1 + 1, 7, none⟩ = some (.slice none 0 0) := (HDW.out.b8.cell 7).trans rfl
    have u7 : W3.frozen? ⟨w.heap.size + 1 + 1, 7, none⟩ = false := HDW.out.b8.frozen 7
    have t8 : W3.cell? ⟨w.heap.size + 1 + 1, 8, none⟩ = some (.slice none 0 0) := (HDW.out.b8.cell 8).trans rfl
    have u8 : W3.frozen? ⟨w.heap.size + 1 + 1, 8, none⟩ = false := HDW.out.b8.frozen 8
    have t9 : W3.cell? ⟨w.heap.size + 1 + 1, 9, none⟩ = some (.slice none 0 0) := (HDW.out.b8.cell 9).trans rfl
    have u9 : W3.frozen? ⟨w.heap.size + 1 + 1, 9, none⟩ = false := HDW.out.b8.frozen 9
    clear hE HDW HGB d1
    go_wp2_with fail
    refine bodyPost_ret (v := .tuple #[.agg (mkC z 0 q n), .bool true]) (res9_1 rfl _ _ (w.heap.size + 1 + 1) 27 _ (0, 0) _ _ rfl rfl HE.out.2 Try.underlying27 rfl (by kernel_rfl)) rfl ?_
    first | exact Or.inl HE.out.1 | exact HE.out.1
  | false =>
    have hE := mu_end (E := E) HDW.out.b8 HDW.out.lk (HDW.out.dc.mono (E' := ME w E) (fun i hi _ => .inl hi)) ((Fr.of_below HDW.out.bel).mono (S := h.W) (fun i hi e => by omega)) HGB.out HDW.out.hW
    have HE := Lib.hid hE
    have t0 : W3.cell? ⟨w.heap.size + 1 + 1, 0, none⟩ = some (.int .i64 0) := (HDW.out.b8.cell 0).trans rfl
    have u0 : W3.frozen? ⟨w.heap.size + 1 + 1, 0, none⟩ = false := HDW.out.b8.frozen 0
    have t1 : W3.cell? ⟨w.heap.size + 1 + 1, 1, none⟩ = some (.slice none 0 0) := (HDW.out.b8.cell 1).trans rfl
    have u1 : W3.frozen? ⟨w.heap.size + 1 + 1, 1, none⟩ = false := HDW.out.b8.frozen 1
    have t2 : W3.cell? ⟨w.heap.size + 1 + 1, 2, none⟩ = some (.slice none 0 0) := (HDW.out.b8.cell 2).trans rfl
    have u2 : W3.frozen? ⟨w.heap.size + 1 + 1, 2, none⟩ = false := HDW.out.b8.frozen 2
    have t3 : W3.cell? ⟨w.heap.size + 1 + 1, 3, none⟩ = some (.slice none 0 0) := (HDW.out.b8.cell 3).trans rfl
    have u3 : W3.frozen? ⟨w.heap.size + 1 + 1, 3, none⟩ = false := HDW.out.b8.frozen 3
    have t4 : W3.cell? ⟨w.heap.size + 1 + 1, 4, none⟩ = some (.slice none 0 0) := (HDW.out.b8.cell 4).trans rfl
    have u4 : W3.frozen? ⟨w.heap.size + 1 + 1, 4, none⟩ = false := HDW.out.b8.frozen 4
    have t5 : W3.cell? ⟨w.heap.size + 1 + 1, 5, none⟩ = some (.slice none 0 0) := (HDW.out.b8.cell 5).trans rfl
    have u5 : W3.frozen? ⟨w.heap.size + 1 + 1, 5, none⟩ = false := HDW.out.b8.frozen 5
    have t6 : W3.cell? ⟨w.heap.size + 1 + 1, 6, none⟩ = some (.slice none 0 0) := (HDW.out.b8.cell 6).trans rfl
    have u6 : W3.frozen? ⟨w.heap.size + 1 + 1, 6, none⟩ = false := HDW.out.b8.frozen 6
    have t7 : W3.cell? ⟨w.heap.size + 1 + 1, 7, none⟩ = some (.slice none 0 0) := (HDW.out.b8.cell 7).trans rfl
    have u7 : W3.frozen? ⟨w.heap.size + 1 + 1, 7, none⟩ = false := HDW.out.b8.frozen 7
    have t8 : W3.cell? ⟨w.heap.size + 1 + 1, 8, none⟩ = some (.slice none 0 0) := (HDW.out.b8.cell 8).trans rfl
    have u8 : W3.frozen? ⟨w.heap.size + 1 + 1, 8, none⟩ = false := HDW.out.b8.frozen 8
    have t9 : W3.cell? ⟨w.heap.size + 1 + 1, 9, none⟩ = some (.slice none 0 0) := (HDW.out.b8.cell 9).trans rfl
    have u9 : W3.frozen? ⟨w.heap.size + 1 + 1, 9, none⟩ = false := HDW.out.b8.frozen 9
    clear hE HDW HGB d1
    go_wp2_with fail
    refine bodyPost_ret (v := .tuple #[.agg (mkC z 0 q n), .bool true]) (res9_1 rfl _ _ (w.heap.size + 1 + 1) 27 _ (0, 0) _ _ rfl rfl HE.out.2 Try.underlying27 rfl (by kernel_rfl)) rfl ?_
    first | exact Or.inl HE.out.1 | exact HE.out.1
set_option maxRecDepth 100000 in
set_option maxHeartbeats 8000000 in
theorem does_n0neg (w : World) (B : Nat) (h : LkH) (E : Nat → Prop) (z : LkQ) (p q : Nat) (s : Lk) (tv x : Int) (hl : LkM w B h s) (hd : DocC w E z p q 0 s) {K : Nat} (O : LkOk K s) (hK : K ≤ 100000) (hE : ∀ k, E k → k < w.heap.size → ¬ h.W k) (hx1 : -9223372036854775808 ≤ x) (hx2 : x ≤ 9223372036854775807) (ht1 : -9223372036854775808 ≤ tv) (ht2 : tv ≤ 9223372036854775807) (kind : Int) (hkn : kind < 0) (hkn2 : ¬ 0 ≤ kind):
    Calls Try.prog 9 #[.pointer (some ⟨h.g, 0, none⟩), .agg (mkC z p q 0), .agg #[.int .i64 kind, .int .i64 tv, .int .i64 x]] w (fun e w' => MuPost w B h E p q 0 s e w' ∨ MuPost w B h E p q 0 s e w') := by
  have hdw := MuW.new w kind tv x hl hd
  obtain ⟨W3, hW3⟩ : ∃ W, W = (((w.alloc (.cells (mkC z p q 0) 27)).alloc (.cells #[.int .i64 kind, .int .i64 tv, .int .i64 x] 34)).alloc (.cells zeroC 27)) := ⟨_, rfl⟩
  rw [← hW3] at hdw
  have hgb := hl.box.lt
  have HDW0 := Lib.hid hdw; have HW3 := Lib.hid hW3; have HGB := Lib.hid hgb
  have htt := aroundV_lt (n := tv) (show (0 : Int) < 8 by omega)
  have har := fun W => around_any tv 8 W ht1 ht2 (by omega) (by omega)
  generalize aroundV tv 8 = t at *
  have HAR := Lib.hid har
  have hwa := lawWaits_any W3 _ z p q 0 s hdw.dc (SzL.of O hK) t
  have HWA := Lib.hid hwa
  have HEE := Lib.hid hE; have HO := Lib.hid O; have HK := Lib.hid hK; have HTT := Lib.hid htt
  obtain ⟨x0, x1, x2, x3, x4, x5, x6, x7, x8, x9⟩ := blk10 hdw.b5
  have d0 : W3.cell? ⟨w.heap.size + 1, 0, none⟩ = some (.int .i64 kind) := (hdw.b6.cell 0).trans rfl
  have d1 : W3.cell? ⟨w.heap.size + 1, 1, none⟩ = some (.int .i64 tv) := (hdw.b6.cell 1).trans rfl
  have d2 : W3.cell? ⟨w.heap.size + 1, 2, none⟩ = some (.int .i64 x) := (hdw.b6.cell 2).trans rfl
  clear hl hd hdw hW3 hgb har hwa hE O hK htt ht1 ht2
  go_enter Try.func9, Try.ntmps9
  go_upto_region 1 with fail
  rw [← HW3.out]
  clear HW3
  go_wp2_with fail
  refine (HAR.out _).mono ?_
  rintro e w4 ⟨rfl, rfl⟩
  clear HAR
  go_wp2_with fail
  refine (HWA.out).mono ?_
  rintro e W3 ⟨bw, rfl, hb4⟩
  have hdw4 : MuW w W3 B h E z p q 0 s kind tv x := HDW0.out.later hb4
  have HDW := Lib.hid hdw4
  clear HWA HDW0 x0 x1 x2 x3 x4 x5 x6 x7 x8 x9 d0 d1 d2 hb4
  obtain ⟨x0, x1, x2, x3, x4, x5, x6, x7, x8, x9⟩ := blk10 hdw4.b5
  have d0 : W3.cell? ⟨w.heap.size + 1, 0, none⟩ = some (.int .i64 kind) := (hdw4.b6.cell 0).trans rfl
  have d1 : W3.cell? ⟨w.heap.size + 1, 1, none⟩ = some (.int .i64 tv) := (hdw4.b6.cell 1).trans rfl
  have d2 : W3.cell? ⟨w.heap.size + 1, 2, none⟩ = some (.int .i64 x) := (hdw4.b6.cell 2).trans rfl
  clear hdw4
  cases bw with
  | true =>
    have hE := mu_end (E := E) HDW.out.b8 HDW.out.lk (HDW.out.dc.mono (E' := ME w E) (fun i hi _ => .inl hi)) ((Fr.of_below HDW.out.bel).mono (S := h.W) (fun i hi e => by omega)) HGB.out HDW.out.hW
    have HE := Lib.hid hE
    have t0 : W3.cell? ⟨w.heap.size + 1 + 1, 0, none⟩ = some (.int .i64 0) := (HDW.out.b8.cell 0).trans rfl
    have u0 : W3.frozen? ⟨w.heap.size + 1 + 1, 0, none⟩ = false := HDW.out.b8.frozen 0
    have t1 : W3.cell? ⟨w.heap.size + 1 + 1, 1, none⟩ = some (.slice none 0 0) := (HDW.out.b8.cell 1).trans rfl
    have u1 : W3.frozen? ⟨w.heap.size + 1 + 1, 1, none⟩ = false := HDW.out.b8.frozen 1
    have t2 : W3.cell? ⟨w.heap.size + 1 + 1, 2, none⟩ = some (.slice none 0 0) := (HDW.out.b8.cell 2).trans rfl
    have u2 : W3.frozen? ⟨w.heap.size + 1 + 1, 2, none⟩ = false := HDW.out.b8.frozen 2
    have t3 : W3.cell? ⟨w.heap.size + 1 + 1, 3, none⟩ = some (.slice none 0 0) := (HDW.out.b8.cell 3).trans rfl
    have u3 : W3.frozen? ⟨w.heap.size + 1 + 1, 3, none⟩ = false := HDW.out.b8.frozen 3
    have t4 : W3.cell? ⟨w.heap.size + 1 + 1, 4, none⟩ = some (.slice none 0 0) := (HDW.out.b8.cell 4).trans rfl
    have u4 : W3.frozen? ⟨w.heap.size + 1 + 1, 4, none⟩ = false := HDW.out.b8.frozen 4
    have t5 : W3.cell? ⟨w.heap.size + 1 + 1, 5, none⟩ = some (.slice none 0 0) := (HDW.out.b8.cell 5).trans rfl
    have u5 : W3.frozen? ⟨w.heap.size + 1 + 1, 5, none⟩ = false := HDW.out.b8.frozen 5
    have t6 : W3.cell? ⟨w.heap.size + 1 + 1, 6, none⟩ = some (.slice none 0 0) := (HDW.out.b8.cell 6).trans rfl
    have u6 : W3.frozen? ⟨w.heap.size + 1 + 1, 6, none⟩ = false := HDW.out.b8.frozen 6
    have t7 : W3.cell? ⟨w.heap.size + 1 + 1, 7, none⟩ = some (.slice none 0 0) := (HDW.out.b8.cell 7).trans rfl
    have u7 : W3.frozen? ⟨w.heap.size + 1 + 1, 7, none⟩ = false := HDW.out.b8.frozen 7
    have t8 : W3.cell? ⟨w.heap.size + 1 + 1, 8, none⟩ = some (.slice none 0 0) := (HDW.out.b8.cell 8).trans rfl
    have u8 : W3.frozen? ⟨w.heap.size + 1 + 1, 8, none⟩ = false := HDW.out.b8.frozen 8
    have t9 : W3.cell? ⟨w.heap.size + 1 + 1, 9, none⟩ = some (.slice none 0 0) := (HDW.out.b8.cell 9).trans rfl
    have u9 : W3.frozen? ⟨w.heap.size + 1 + 1, 9, none⟩ = false := HDW.out.b8.frozen 9
    clear hE HDW HGB d1
    go_wp2_with fail
    refine bodyPost_ret (v := .tuple #[.agg (mkC z p q 0), .bool true]) (res9_1 rfl _ _ (w.heap.size + 1 + 1) 27 _ (0, 0) _ _ rfl rfl HE.out.2 Try.underlying27 rfl (by kernel_rfl)) rfl ?_
    first | exact Or.inl HE.out.1 | exact HE.out.1
  | false =>
    have hE := mu_end (E := E) HDW.out.b8 HDW.out.lk (HDW.out.dc.mono (E' := ME w E) (fun i hi _ => .inl hi)) ((Fr.of_below HDW.out.bel).mono (S := h.W) (fun i hi e => by omega)) HGB.out HDW.out.hW
    have HE := Lib.hid hE
    have t0 : W3.cell? ⟨w.heap.size + 1 + 1, 0, none⟩ = some (.int .i64 0) := (HDW.out.b8.cell 0).trans rfl
    have u0 : W3.frozen? ⟨w.heap.size + 1 + 1, 0, none⟩ = false := HDW.out.b8.frozen 0
    have t1 : W3.cell? ⟨w.heap.size + 1 + 1, 1, none⟩ = some (.slice none 0 0) := (HDW.out.b8.cell 1).trans rfl
    have u1 : W3.frozen? ⟨w.heap.size + 1 + 1, 1, none⟩ = false := HDW.out.b8.frozen 1
    have t2 : W3.cell? ⟨w.heap.size + 1 + 1, 2, none⟩ = some (.slice none 0 0) := (HDW.out.b8.cell 2).trans rfl
    have u2 : W3.frozen? ⟨w.heap.size + 1 + 1, 2, none⟩ = false := HDW.out.b8.frozen 2
    have t3 : W3.cell? ⟨w.heap.size + 1 + 1, 3, none⟩ = some (.slice none 0 0) := (HDW.out.b8.cell 3).trans rfl
    have u3 : W3.frozen? ⟨w.heap.size + 1 + 1, 3, none⟩ = false := HDW.out.b8.frozen 3
    have t4 : W3.cell? ⟨w.heap.size + 1 + 1, 4, none⟩ = some (.slice none 0 0) := (HDW.out.b8.cell 4).trans rfl
    have u4 : W3.frozen? ⟨w.heap.size + 1 + 1, 4, none⟩ = false := HDW.out.b8.frozen 4
    have t5 : W3.cell? ⟨w.heap.size + 1 + 1, 5, none⟩ = some (.slice none 0 0) := (HDW.out.b8.cell 5).trans rfl
    have u5 : W3.frozen? ⟨w.heap.size + 1 + 1, 5, none⟩ = false := HDW.out.b8.frozen 5
    have t6 : W3.cell? ⟨w.heap.size + 1 + 1, 6, none⟩ = some (.slice none 0 0) := (HDW.out.b8.cell 6).trans rfl
    have u6 : W3.frozen? ⟨w.heap.size + 1 + 1, 6, none⟩ = false := HDW.out.b8.frozen 6
    have t7 : W3.cell? ⟨w.heap.size + 1 + 1, 7, none⟩ = some (.slice none 0 0) := (HDW.out.b8.cell 7).trans rfl
    have u7 : W3.frozen? ⟨w.heap.size + 1 + 1, 7, none⟩ = false := HDW.out.b8.frozen 7
    have t8 : W3.cell? ⟨w.heap.size + 1 + 1, 8, none⟩ = some (.slice none 0 0) := (HDW.out.b8.cell 8).trans rfl
    have u8 : W3.frozen? ⟨w.heap.size + 1 + 1, 8, none⟩ = false := HDW.out.b8.frozen 8
    have t9 : W3.cell? ⟨w.heap.size + 1 + 1, 9, none⟩ = some (.slice none 0 0) := (HDW.out.b8.cell 9).trans rfl
    have u9 : W3.frozen? ⟨w.heap.size + 1 + 1, 9, none⟩ = false := HDW.out.b8.frozen 9
    clear hE HDW HGB d1
    go_wp2_with fail
    refine bodyPost_ret (v := .tuple #[.agg (mkC z p q 0), .bool true]) (res9_1 rfl _ _ (w.heap.size + 1 + 1) 27 _ (0, 0) _ _ rfl rfl HE.out.2 Try.underlying27 rfl (by kernel_rfl)) rfl ?_
    first | exact Or.inl HE.out.1 | exact HE.out.1
set_option maxRecDepth 100000 in
set_option maxHeartbeats 8000000 in
theorem does_n0big (w : World) (B : Nat) (h : LkH) (E : Nat → Prop) (z : LkQ) (p q : Nat) (s : Lk) (tv x : Int) (hl : LkM w B h s) (hd : DocC w E z p q 0 s) {K : Nat} (O : LkOk K s) (hK : K ≤ 100000) (hE : ∀ k, E k → k < w.heap.size → ¬ h.W k) (hx1 : -9223372036854775808 ≤ x) (hx2 : x ≤ 9223372036854775807) (ht1 : -9223372036854775808 ≤ tv) (ht2 : tv ≤ 9223372036854775807) (kind : Int) (hk0 : 0 ≤ kind) (hk4 : ¬ kind ≤ 4):
    Calls Try.prog 9 #[.pointer (some ⟨h.g, 0, none⟩), .agg (mkC z p q 0), .agg #[.int .i64 kind, .int .i64 tv, .int .i64 x]] w (fun e w' => MuPost w B h E p q 0 s e w' ∨ MuPost w B h E p q 0 s e w') := by
  have hdw := MuW.new w kind tv x hl hd
  obtain ⟨W3, hW3⟩ : ∃ W, W = (((w.alloc (.cells (mkC z p q 0) 27)).alloc (.cells #[.int .i64 kind, .int .i64 tv, .int .i64 x] 34)).alloc (.cells zeroC 27)) := ⟨_, rfl⟩
  rw [← hW3] at hdw
  have hgb := hl.box.lt
  have HDW0 := Lib.hid hdw; have HW3 := Lib.hid hW3; have HGB := Lib.hid hgb
  have htt := aroundV_lt (n := tv) (show (0 : Int) < 8 by omega)
  have har := fun W => around_any tv 8 W ht1 ht2 (by omega) (by omega)
  generalize aroundV tv 8 = t at *
  have HAR := Lib.hid har
  have hwa := lawWaits_any W3 _ z p q 0 s hdw.dc (SzL.of O hK) t
  have HWA := Lib.hid hwa
  have HEE := Lib.hid hE; have HO := Lib.hid O; have HK := Lib.hid hK; have HTT := Lib.hid htt
  obtain ⟨x0, x1, x2, x3, x4, x5, x6, x7, x8, x9⟩ := blk10 hdw.b5
  have d0 : W3.cell? ⟨w.heap.size + 1, 0, none⟩ = some (.int .i64 kind) := (hdw.b6.cell 0).trans rfl
  have d1 : W3.cell? ⟨w.heap.size + 1, 1, none⟩ = some (.int .i64 tv) := (hdw.b6.cell 1).trans rfl
  have d2 : W3.cell? ⟨w.heap.size + 1, 2, none⟩ = some (.int .i64 x) := (hdw.b6.cell 2).trans rfl
  clear hl hd hdw hW3 hgb har hwa hE O hK htt ht1 ht2
  go_enter Try.func9, Try.ntmps9
  go_upto_region 1 with fail
  rw [← HW3.out]
  clear HW3
  go_wp2_with fail
  refine (HAR.out _).mono ?_
  rintro e w4 ⟨rfl, rfl⟩
  clear HAR
  go_wp2_with fail
  refine (HWA.out).mono ?_
  rintro e W3 ⟨bw, rfl, hb4⟩
  have hdw4 : MuW w W3 B h E z p q 0 s kind tv x := HDW0.out.later hb4
  have HDW := Lib.hid hdw4
  clear HWA HDW0 x0 x1 x2 x3 x4 x5 x6 x7 x8 x9 d0 d1 d2 hb4
  obtain ⟨x0, x1, x2, x3, x4, x5, x6, x7, x8, x9⟩ := blk10 hdw4.b5
  have d0 : W3.cell? ⟨w.heap.size + 1, 0, none⟩ = some (.int .i64 kind) := (hdw4.b6.cell 0).trans rfl
  have d1 : W3.cell? ⟨w.heap.size + 1, 1, none⟩ = some (.int .i64 tv) := (hdw4.b6.cell 1).trans rfl
  have d2 : W3.cell? ⟨w.heap.size + 1, 2, none⟩ = some (.int .i64 x) := (hdw4.b6.cell 2).trans rfl
  clear hdw4
  cases bw with
  | true =>
    have hE := mu_end (E := E) HDW.out.b8 HDW.out.lk (HDW.out.dc.mono (E' := ME w E) (fun i hi _ => .inl hi)) ((Fr.of_below HDW.out.bel).mono (S := h.W) (fun i hi e => by omega)) HGB.out HDW.out.hW
    have HE := Lib.hid hE
    have t0 : W3.cell? ⟨w.heap.size + 1 + 1, 0, none⟩ = some (.int .i64 0) := (HDW.out.b8.cell 0).trans rfl
    have u0 : W3.frozen? ⟨w.heap.size + 1 + 1, 0, none⟩ = false := HDW.out.b8.frozen 0
    have t1 : W3.cell? ⟨w.heap.size + 1 + 1, 1, none⟩ = some (.slice none 0 0) := (HDW.out.b8.cell 1).trans rfl
    have u1 : W3.frozen? ⟨w.heap.size + 1 + 1, 1, none⟩ = false := HDW.out.b8.frozen 1
    have t2 : W3.cell? ⟨w.heap.size + 1 + 1, 2, none⟩ = some (.slice none 0 0) := (HDW.out.b8.cell 2).trans rfl
    have u2 : W3.frozen? ⟨w.heap.size + 1 + 1, 2, none⟩ = false := HDW.out.b8.frozen 2
    have t3 : W3.cell? ⟨w.heap.size + 1 + 1, 3, none⟩ = some (.slice none 0 0) := (HDW.out.b8.cell 3).trans rfl
    have u3 : W3.frozen? ⟨w.heap.size + 1 + 1, 3, none⟩ = false := HDW.out.b8.frozen 3
    have t4 : W3.cell? ⟨w.heap.size + 1 + 1, 4, none⟩ = some (.slice none 0 0) := (HDW.out.b8.cell 4).trans rfl
    have u4 : W3.frozen? ⟨w.heap.size + 1 + 1, 4, none⟩ = false := HDW.out.b8.frozen 4
    have t5 : W3.cell? ⟨w.heap.size + 1 + 1, 5, none⟩ = some (.slice none 0 0) := (HDW.out.b8.cell 5).trans rfl
    have u5 : W3.frozen? ⟨w.heap.size + 1 + 1, 5, none⟩ = false := HDW.out.b8.frozen 5
    have t6 : W3.cell? ⟨w.heap.size + 1 + 1, 6, none⟩ = some (.slice none 0 0) := (HDW.out.b8.cell 6).trans rfl
    have u6 : W3.frozen? ⟨w.heap.size + 1 + 1, 6, none⟩ = false := HDW.out.b8.frozen 6
    have t7 : W3.cell? ⟨w.heap.size + 1 + 1, 7, none⟩ = some (.slice none 0 0) := (HDW.out.b8.cell 7).trans rfl
    have u7 : W3.frozen? ⟨w.heap.size + 1 + 1, 7, none⟩ = false := HDW.out.b8.frozen 7
    have t8 : W3.cell? ⟨w.heap.size + 1 + 1, 8, none⟩ = some (.slice none 0 0) := (HDW.out.b8.cell 8).trans rfl
    have u8 : W3.frozen? ⟨w.heap.size + 1 + 1, 8, none⟩ = false := HDW.out.b8.frozen 8
    have t9 : W3.cell? ⟨w.heap.size + 1 + 1, 9, none⟩ = some (.slice none 0 0) := (HDW.out.b8.cell 9).trans rfl
    have u9 : W3.frozen? ⟨w.heap.size + 1 + 1, 9, none⟩ = false := HDW.out.b8.frozen 9
    clear hE HDW HGB d1
    go_wp2_with fail
    refine bodyPost_ret (v := .tuple #[.agg (mkC z p q 0), .bool true]) (res9_1 rfl _ _ (w.heap.size + 1 + 1) 27 _ (0, 0) _ _ rfl rfl HE.out.2 Try.underlying27 rfl (by kernel_rfl)) rfl ?_
    first | exact Or.inl HE.out.1 | exact HE.out.1
  | false =>
    have hE := mu_end (E := E) HDW.out.b8 HDW.out.lk (HDW.out.dc.mono (E' := ME w E) (fun i hi _ => .inl hi)) ((Fr.of_below HDW.out.bel).mono (S := h.W) (fun i hi e => by omega)) HGB.out HDW.out.hW
    have HE := Lib.hid hE
    have t0 : W3.cell? ⟨w.heap.size + 1 + 1, 0, none⟩ = some (.int .i64 0) := (HDW.out.b8.cell 0).trans rfl
    have u0 : W3.frozen? ⟨w.heap.size + 1 + 1, 0, none⟩ = false := HDW.out.b8.frozen 0
    have t1 : W3.cell? ⟨w.heap.size + 1 + 1, 1, none⟩ = some (.slice none 0 0) := (HDW.out.b8.cell 1).trans rfl
    have u1 : W3.frozen? ⟨w.heap.size + 1 + 1, 1, none⟩ = false := HDW.out.b8.frozen 1
    have t2 : W3.cell? ⟨w.heap.size + 1 + 1, 2, none⟩ = some (.slice none 0 0) := (HDW.out.b8.cell 2).trans rfl
    have u2 : W3.frozen? ⟨w.heap.size + 1 + 1, 2, none⟩ = false := HDW.out.b8.frozen 2
    have t3 : W3.cell? ⟨w.heap.size + 1 + 1, 3, none⟩ = some (.slice none 0 0) := (HDW.out.b8.cell 3).trans rfl
    have u3 : W3.frozen? ⟨w.heap.size + 1 + 1, 3, none⟩ = false := HDW.out.b8.frozen 3
    have t4 : W3.cell? ⟨w.heap.size + 1 + 1, 4, none⟩ = some (.slice none 0 0) := (HDW.out.b8.cell 4).trans rfl
    have u4 : W3.frozen? ⟨w.heap.size + 1 + 1, 4, none⟩ = false := HDW.out.b8.frozen 4
    have t5 : W3.cell? ⟨w.heap.size + 1 + 1, 5, none⟩ = some (.slice none 0 0) := (HDW.out.b8.cell 5).trans rfl
    have u5 : W3.frozen? ⟨w.heap.size + 1 + 1, 5, none⟩ = false := HDW.out.b8.frozen 5
    have t6 : W3.cell? ⟨w.heap.size + 1 + 1, 6, none⟩ = some (.slice none 0 0) := (HDW.out.b8.cell 6).trans rfl
    have u6 : W3.frozen? ⟨w.heap.size + 1 + 1, 6, none⟩ = false := HDW.out.b8.frozen 6
    have t7 : W3.cell? ⟨w.heap.size + 1 + 1, 7, none⟩ = some (.slice none 0 0) := (HDW.out.b8.cell 7).trans rfl
    have u7 : W3.frozen? ⟨w.heap.size + 1 + 1, 7, none⟩ = false := HDW.out.b8.frozen 7
    have t8 : W3.cell? ⟨w.heap.size + 1 + 1, 8, none⟩ = some (.slice none 0 0) := (HDW.out.b8.cell 8).trans rfl
    have u8 : W3.frozen? ⟨w.heap.size + 1 + 1, 8, none⟩ = false := HDW.out.b8.frozen 8
    have t9 : W3.cell? ⟨w.heap.size + 1 + 1, 9, none⟩ = some (.slice none 0 0) := (HDW.out.b8.cell 9).trans rfl
    have u9 : W3.frozen? ⟨w.heap.size + 1 + 1, 9, none⟩ = false := HDW.out.b8.frozen 9
    clear hE HDW HGB d1
    go_wp2_with fail
    refine bodyPost_ret (v := .tuple #[.agg (mkC z p q 0), .bool true]) (res9_1 rfl _ _ (w.heap.size + 1 + 1) 27 _ (0, 0) _ _ rfl rfl HE.out.2 Try.underlying27 rfl (by kernel_rfl)) rfl ?_
    first | exact Or.inl HE.out.1 | exact HE.out.1
set_option maxRecDepth 100000 in
set_option maxHeartbeats 8000000 in
theorem does_mut (w : World) (B : Nat) (h : LkH) (E : Nat → Prop) (z : LkQ) (p q n : Nat) (s : Lk) (tv x : Int) (hl : LkM w B h s) (hd : DocC w E z p q n s) {K : Nat} (O : LkOk K s) (hK : K ≤ 100000) (hE : ∀ k, E k → k < w.heap.size → ¬ h.W k) (hx1 : -9223372036854775808 ≤ x) (hx2 : x ≤ 9223372036854775807) (ht1 : -9223372036854775808 ≤ tv) (ht2 : tv ≤ 9223372036854775807) (kind : Int) (hk0 : 0 ≤ kind) (hk4 : kind ≤ 4) (hp : 0 < p) (hp2 : p ≤ 8) (hq2 : q ≤ 8) (hT : tot s.lq + tot s.wq + tot s.dq + 1 ≤ K) (s2 : Lk) (hs2 : mutV s p q kind x (aroundV tv 8) = s2):
    Calls Try.prog 9 #[.pointer (some ⟨h.g, 0, none⟩), .agg (mkC z p q n), .agg #[.int .i64 kind, .int .i64 tv, .int .i64 x]] w (fun e w' => MuPost w B h E p q n s e w' ∨ MuPost w B h E p q n s2 e w') := by
  have hdw := MuW.new w kind tv x hl hd
  obtain ⟨W3, hW3⟩ : ∃ W, W = (((w.alloc (.cells (mkC z p q n) 27)).alloc (.cells #[.int .i64 kind, .int .i64 tv, .int .i64 x] 34)).alloc (.cells zeroC 27)) := ⟨_, rfl⟩
  rw [← hW3] at hdw
  have hgb := hl.box.lt
  have HDW0 := Lib.hid hdw; have HW3 := Lib.hid hW3; have HGB := Lib.hid hgb
  have htt := aroundV_lt (n := tv) (show (0 : Int) < 8 by omega)
  have har := fun W => around_any tv 8 W ht1 ht2 (by omega) (by omega)
  generalize aroundV tv 8 = t at *
  have HAR := Lib.hid har
  have hwa := lawWaits_any W3 _ z p q n s hdw.dc (SzL.of O hK) t
  have HWA := Lib.hid hwa
  have HEE := Lib.hid hE; have HO := Lib.hid O; have HK := Lib.hid hK; have HTT := Lib.hid htt
  obtain ⟨x0, x1, x2, x3, x4, x5, x6, x7, x8, x9⟩ := blk10 hdw.b5
  have d0 : W3.cell? ⟨w.heap.size + 1, 0, none⟩ = some (.int .i64 kind) := (hdw.b6.cell 0).trans rfl
  have d1 : W3.cell? ⟨w.heap.size + 1, 1, none⟩ = some (.int .i64 tv) := (hdw.b6.cell 1).trans rfl
  have d2 : W3.cell? ⟨w.heap.size + 1, 2, none⟩ = some (.int .i64 x) := (hdw.b6.cell 2).trans rfl
  have HT := Lib.hid hT; have HS2 := Lib.hid hs2
  clear hT hs2
  clear hl hd hdw hW3 hgb har hwa hE O hK htt ht1 ht2
  go_enter Try.func9, Try.ntmps9
  go_upto_region 1 with fail
  rw [← HW3.out]
  clear HW3
  go_wp2_with fail
  refine (HAR.out _).mono ?_
  rintro e w4 ⟨rfl, rfl⟩
  clear HAR
  go_wp2_with fail
  refine (HWA.out).mono ?_
  rintro e W3 ⟨bw, rfl, hb4⟩
  have hdw4 : MuW w W3 B h E z p q n s kind tv x := HDW0.out.later hb4
  have HDW := Lib.hid hdw4
  clear HWA HDW0 x0 x1 x2 x3 x4 x5 x6 x7 x8 x9 d0 d1 d2 hb4
  obtain ⟨x0, x1, x2, x3, x4, x5, x6, x7, x8, x9⟩ := blk10 hdw4.b5
  have d0 : W3.cell? ⟨w.heap.size + 1, 0, none⟩ = some (.int .i64 kind) := (hdw4.b6.cell 0).trans rfl
  have d1 : W3.cell? ⟨w.heap.size + 1, 1, none⟩ = some (.int .i64 tv) := (hdw4.b6.cell 1).trans rfl
  have d2 : W3.cell? ⟨w.heap.size + 1, 2, none⟩ = some (.int .i64 x) := (hdw4.b6.cell 2).trans rfl
  clear hdw4
  cases bw with
  | true =>
    have hE := mu_end (E := E) HDW.out.b8 HDW.out.lk (HDW.out.dc.mono (E' := ME w E) (fun i hi _ => .inl hi)) ((Fr.of_below HDW.out.bel).mono (S := h.W) (fun i hi e => by omega)) HGB.out HDW.out.hW
    have HE := Lib.hid hE
    have t0 : W3.cell? ⟨w.heap.size + 1 + 1, 0, none⟩ = some (.int .i64 0) := (HDW.out.b8.cell 0).trans rfl
    have u0 : W3.frozen? ⟨w.heap.size + 1 + 1, 0, none⟩ = false := HDW.out.b8.frozen 0
    have t1 : W3.cell? ⟨w.heap.size + 1 + 1, 1, none⟩ = some (.slice none 0 0) := (HDW.out.b8.cell 1).trans rfl
    have u1 : W3.frozen? ⟨w.heap.size + 1 + 1, 1, none⟩ = false := HDW.out.b8.frozen 1
    have t2 : W3.cell? ⟨w.heap.size + 1 + 1, 2, none⟩ = some (.slice none 0 0) := (HDW.out.b8.cell 2).trans rfl
    have u2 : W3.frozen? ⟨w.heap.size + 1 + 1, 2, none⟩ = false := HDW.out.b8.frozen 2
    have t3 : W3.cell? ⟨w.heap.size + 1 + 1, 3, none⟩ = some (.slice none 0 0) := (HDW.out.b8.cell 3).trans rfl
    have u3 : W3.frozen? ⟨w.heap.size + 1 + 1, 3, none⟩ = false := HDW.out.b8.frozen 3
    have t4 : W3.cell? ⟨w.heap.size + 1 + 1, 4, none⟩ = some (.slice none 0 0) := (HDW.out.b8.cell 4).trans rfl
    have u4 : W3.frozen? ⟨w.heap.size + 1 + 1, 4, none⟩ = false := HDW.out.b8.frozen 4
    have t5 : W3.cell? ⟨w.heap.size + 1 + 1, 5, none⟩ = some (.slice none 0 0) := (HDW.out.b8.cell 5).trans rfl
    have u5 : W3.frozen? ⟨w.heap.size + 1 + 1, 5, none⟩ = false := HDW.out.b8.frozen 5
    have t6 : W3.cell? ⟨w.heap.size + 1 + 1, 6, none⟩ = some (.slice none 0 0) := (HDW.out.b8.cell 6).trans rfl
    have u6 : W3.frozen? ⟨w.heap.size + 1 + 1, 6, none⟩ = false := HDW.out.b8.frozen 6
    have t7 : W3.cell? ⟨w.heap.size + 1 + 1, 7, none⟩ = some (.slice none 0 0) := (HDW.out.b8.cell 7).trans rfl
    have u7 : W3.frozen? ⟨w.heap.size + 1 + 1, 7, none⟩ = false := HDW.out.b8.frozen 7
    have t8 : W3.cell? ⟨w.heap.size + 1 + 1, 8, none⟩ = some (.slice none 0 0) := (HDW.out.b8.cell 8).trans rfl
    have u8 : W3.frozen? ⟨w.heap.size + 1 + 1, 8, none⟩ = false := HDW.out.b8.frozen 8
    have t9 : W3.cell? ⟨w.heap.size + 1 + 1, 9, none⟩ = some (.slice none 0 0) := (HDW.out.b8.cell 9).trans rfl
    have u9 : W3.frozen? ⟨w.heap.size + 1 + 1, 9, none⟩ = false := HDW.out.b8.frozen 9
    clear hE HDW HGB d1
    go_wp2_with fail
    refine bodyPost_ret (v := .tuple #[.agg (mkC z p q n), .bool true]) (res9_1 rfl _ _ (w.heap.size + 1 + 1) 27 _ (0, 0) _ _ rfl rfl HE.out.2 Try.underlying27 rfl (by kernel_rfl)) rfl ?_
    first | exact Or.inl HE.out.1 | exact HE.out.1
  | false =>
    have hmu := mutexes_any kind W3 B { h with X := fun k => h.X k ∨ k = w.heap.size + 1 + 1 } (fun k => E k ∧ k < w.heap.size) z p q n s tv x t HDW.out.lk HDW.out.dc HO.out HK.out (fun k hk _ => HEE.out k hk.1 hk.2) hx1 hx2 HTT.out.1 (by have := HTT.out.2; omega) hp hp2 HT.out hk0 hk4 hq2
    rw [HS2.out] at hmu
    have HMU := Lib.hid hmu
    clear hmu
    have hp0 : (0 : Int) < (p : Int) := by omega
    have hpz : ¬ (p : Int) = 0 := by omega
    go_wp2_with fail
    refine HMU.out.mono ?_
    rintro e w6 ⟨z', rfl, hq, hd6, hf⟩
    have k8 := hf.blk HDW.out.b8 (fun e => by have := HDW.out.hW _ e; omega)
    have hE := mu_end (E := E) k8 hq (hd6.mono (E' := ME w E) (fun k hk _ => by have := HDW.out.sz; rcases hk with hk | hk; exact .inl hk.1; exact .inr (by omega))) (((Fr.of_below HDW.out.bel).mono (S := h.W) (fun i hi e => by omega)).trans hf (fun i _ e => e)) HGB.out HDW.out.hW
    have HE := Lib.hid hE
    have t0 : w6.cell? ⟨w.heap.size + 1 + 1, 0, none⟩ = some (.int .i64 0) := (k8.cell 0).trans rfl
    have u0 : w6.frozen? ⟨w.heap.size + 1 + 1, 0, none⟩ = false := k8.frozen 0
    have t1 : w6.cell? ⟨w.heap.size + 1 + 1, 1, none⟩ = some (.slice none 0 0) := (k8.cell 1).trans rfl
    have u1 : w6.frozen? ⟨w.heap.size + 1 + 1, 1, none⟩ = false := k8.frozen 1
    have t2 : w6.cell? ⟨w.heap.size + 1 + 1, 2, none⟩ = some (.slice none 0 0) := (k8.cell 2).trans rfl
    have u2 : w6.frozen? ⟨w.heap.size + 1 + 1, 2, none⟩ = false := k8.frozen 2
    have t3 : w6.cell? ⟨w.heap.size + 1 + 1, 3, none⟩ = some (.slice none 0 0) := (k8.cell 3).trans rfl
    have u3 : w6.frozen? ⟨w.heap.size + 1 + 1, 3, none⟩ = false := k8.frozen 3
    have t4 : w6.cell? ⟨w.heap.size + 1 + 1, 4, none⟩ = some (.slice none 0 0) := (k8.cell 4).trans rfl
    have u4 : w6.frozen? ⟨w.heap.size + 1 + 1, 4, none⟩ = false := k8.frozen 4
    have t5 : w6.cell? ⟨w.heap.size + 1 + 1, 5, none⟩ = some (.slice none 0 0) := (k8.cell 5).trans rfl
    have u5 : w6.frozen? ⟨w.heap.size + 1 + 1, 5, none⟩ = false := k8.frozen 5
    have t6 : w6.cell? ⟨w.heap.size + 1 + 1, 6, none⟩ = some (.slice none 0 0) := (k8.cell 6).trans rfl
    have u6 : w6.frozen? ⟨w.heap.size + 1 + 1, 6, none⟩ = false := k8.frozen 6
    have t7 : w6.cell? ⟨w.heap.size + 1 + 1, 7, none⟩ = some (.slice none 0 0) := (k8.cell 7).trans rfl
    have u7 : w6.frozen? ⟨w.heap.size + 1 + 1, 7, none⟩ = false := k8.frozen 7
    have t8 : w6.cell? ⟨w.heap.size + 1 + 1, 8, none⟩ = some (.slice none 0 0) := (k8.cell 8).trans rfl
    have u8 : w6.frozen? ⟨w.heap.size + 1 + 1, 8, none⟩ = false := k8.frozen 8
    have t9 : w6.cell? ⟨w.heap.size + 1 + 1, 9, none⟩ = some (.slice none 0 0) := (k8.cell 9).trans rfl
    have u9 : w6.frozen? ⟨w.heap.size + 1 + 1, 9, none⟩ = false := k8.frozen 9
    clear hE hq hf hd6 k8 HDW HMU HEE HO HK HTT HT
    go_wp2_with fail
    refine bodyPost_ret (v := .tuple #[.agg (mkC z' p q n), .bool true]) (res9_1 rfl _ _ (w.heap.size + 1 + 1) 27 _ (0, 0) _ _ rfl rfl HE.out.2 Try.underlying27 rfl (by kernel_rfl)) rfl (Or.inr HE.out.1)
set_option maxRecDepth 100000 in
set_option maxHeartbeats 8000000 in
theorem does_down (w : World) (B : Nat) (h : LkH) (E : Nat → Prop) (z : LkQ) (p q n : Nat) (s : Lk) (tv x : Int) (hl : LkM w B h s) (hd : DocC w E z p q n s) {K : Nat} (O : LkOk K s) (hK : K ≤ 100000) (hE : ∀ k, E k → k < w.heap.size → ¬ h.W k) (hx1 : -9223372036854775808 ≤ x) (hx2 : x ≤ 9223372036854775807) (ht1 : -9223372036854775808 ≤ tv) (ht2 : tv ≤ 9223372036854775807) (i : Nat) (hn : 0 < n) (hn2 : n ≤ 8) (hix : aroundV x n = (i : Int)) (s2 : Lk) (bv : Bool) (hs2 : downV s i (aroundV tv 8) = (s2, bv)):
    Calls Try.prog 9 #[.pointer (some ⟨h.g, 0, none⟩), .agg (mkC z p q n), .agg #[.int .i64 5, .int .i64 tv, .int .i64 x]] w (fun e w' => MuPost w B h E p q n s e w' ∨ MuPost w B h E p q n s2 e w') := by
  have hdw := MuW.new w 5 tv x hl hd
  obtain ⟨W3, hW3⟩ : ∃ W, W = (((w.alloc (.cells (mkC z p q n) 27)).alloc (.cells #[.int .i64 5, .int .i64 tv, .int .i64 x] 34)).alloc (.cells zeroC 27)) := ⟨_, rfl⟩
  rw [← hW3] at hdw
  have hgb := hl.box.lt
  have HDW0 := Lib.hid hdw; have HW3 := Lib.hid hW3; have HGB := Lib.hid hgb
  have htt := aroundV_lt (n := tv) (show (0 : Int) < 8 by omega)
  have har := fun W => around_any tv 8 W ht1 ht2 (by omega) (by omega)
  generalize aroundV tv 8 = t at *
  have HAR := Lib.hid har
  have hwa := lawWaits_any W3 _ z p q n s hdw.dc (SzL.of O hK) t
  have HWA := Lib.hid hwa
  have HEE := Lib.hid hE; have HO := Lib.hid O; have HK := Lib.hid hK; have HTT := Lib.hid htt
  obtain ⟨x0, x1, x2, x3, x4, x5, x6, x7, x8, x9⟩ := blk10 hdw.b5
  have d0 : W3.cell? ⟨w.heap.size + 1, 0, none⟩ = some (.int .i64 5) := (hdw.b6.cell 0).trans rfl
  have d1 : W3.cell? ⟨w.heap.size + 1, 1, none⟩ = some (.int .i64 tv) := (hdw.b6.cell 1).trans rfl
  have d2 : W3.cell? ⟨w.heap.size + 1, 2, none⟩ = some (.int .i64 x) := (hdw.b6.cell 2).trans rfl
  have HS2 := Lib.hid hs2
  clear hs2
  clear hl hd hdw hW3 hgb har hwa hE O hK htt ht1 ht2
  go_enter Try.func9, Try.ntmps9
  go_upto_region 1 with fail
  rw [← HW3.out]
  clear HW3
  go_wp2_with fail
  refine (HAR.out _).mono ?_
  rintro e w4 ⟨rfl, rfl⟩
  clear HAR
  go_wp2_with fail
  refine (HWA.out).mono ?_
  rintro e W3 ⟨bw, rfl, hb4⟩
  have hdw4 : MuW w W3 B h E z p q n s 5 tv x := HDW0.out.later hb4
  have HDW := Lib.hid hdw4
  clear HWA HDW0 x0 x1 x2 x3 x4 x5 x6 x7 x8 x9 d0 d1 d2 hb4
  obtain ⟨x0, x1, x2, x3, x4, x5, x6, x7, x8, x9⟩ := blk10 hdw4.b5
  have d0 : W3.cell? ⟨w.heap.size + 1, 0, none⟩ = some (.int .i64 5) := (hdw4.b6.cell 0).trans rfl
  have d1 : W3.cell? ⟨w.heap.size + 1, 1, none⟩ = some (.int .i64 tv) := (hdw4.b6.cell 1).trans rfl
  have d2 : W3.cell? ⟨w.heap.size + 1, 2, none⟩ = some (.int .i64 x) := (hdw4.b6.cell 2).trans rfl
  clear hdw4
  cases bw with
  | true =>
    have hE := mu_end (E := E) HDW.out.b8 HDW.out.lk (HDW.out.dc.mono (E' := ME w E) (fun i hi _ => .inl hi)) ((Fr.of_below HDW.out.bel).mono (S := h.W) (fun i hi e => by omega)) HGB.out HDW.out.hW
    have HE := Lib.hid hE
    have t0 : W3.cell? ⟨w.heap.size + 1 + 1, 0, none⟩ = some (.int .i64 0) := (HDW.out.b8.cell 0).trans rfl
    have u0 : W3.frozen? ⟨w.heap.size + 1 + 1, 0, none⟩ = false := HDW.out.b8.frozen 0
    have t1 : W3.cell? ⟨w.heap.size + 1 + 1, 1, none⟩ = some (.slice none 0 0) := (HDW.out.b8.cell 1).trans rfl
    have u1 : W3.frozen? ⟨w.heap.size + 1 + 1, 1, none⟩ = false := HDW.out.b8.frozen 1
    have t2 : W3.cell? ⟨w.heap.size + 1 + 1, 2, none⟩ = some (.slice none 0 0) := (HDW.out.b8.cell 2).trans rfl
    have u2 : W3.frozen? ⟨w.heap.size + 1 + 1, 2, none⟩ = false := HDW.out.b8.frozen 2
    have t3 : W3.cell? ⟨w.heap.size + 1 + 1, 3, none⟩ = some (.slice none 0 0) := (HDW.out.b8.cell 3).trans rfl
    have u3 : W3.frozen? ⟨w.heap.size + 1 + 1, 3, none⟩ = false := HDW.out.b8.frozen 3
    have t4 : W3.cell? ⟨w.heap.size + 1 + 1, 4, none⟩ = some (.slice none 0 0) := (HDW.out.b8.cell 4).trans rfl
    have u4 : W3.frozen? ⟨w.heap.size + 1 + 1, 4, none⟩ = false := HDW.out.b8.frozen 4
    have t5 : W3.cell? ⟨w.heap.size + 1 + 1, 5, none⟩ = some (.slice none 0 0) := (HDW.out.b8.cell 5).trans rfl
    have u5 : W3.frozen? ⟨w.heap.size + 1 + 1, 5, none⟩ = false := HDW.out.b8.frozen 5
    have t6 : W3.cell? ⟨w.heap.size + 1 + 1, 6, none⟩ = some (.slice none 0 0) := (HDW.out.b8.cell 6).trans rfl
    have u6 : W3.frozen? ⟨w.heap.size + 1 + 1, 6, none⟩ = false := HDW.out.b8.frozen 6
    have t7 : W3.cell? ⟨w.heap.size + 1 + 1, 7, none⟩ = some (.slice none 0 0) := (HDW.out.b8.cell 7).trans rfl
    have u7 : W3.frozen? ⟨w.heap.size + 1 + 1, 7, none⟩ = false := HDW.out.b8.frozen 7
    have t8 : W3.cell? ⟨w.heap.size + 1 + 1, 8, none⟩ = some (.slice none 0 0) := (HDW.out.b8.cell 8).trans rfl
    have u8 : W3.frozen? ⟨w.heap.size + 1 + 1, 8, none⟩ = false := HDW.out.b8.frozen 8
    have t9 : W3.cell? ⟨w.heap.size + 1 + 1, 9, none⟩ = some (.slice none 0 0) := (HDW.out.b8.cell 9).trans rfl
    have u9 : W3.frozen? ⟨w.heap.size + 1 + 1, 9, none⟩ = false := HDW.out.b8.frozen 9
    clear hE HDW HGB d1
    go_wp2_with fail
    refine bodyPost_ret (v := .tuple #[.agg (mkC z p q n), .bool true]) (res9_1 rfl _ _ (w.heap.size + 1 + 1) 27 _ (0, 0) _ _ rfl rfl HE.out.2 Try.underlying27 rfl (by kernel_rfl)) rfl ?_
    first | exact Or.inl HE.out.1 | exact HE.out.1
  | false =>
    have hsm := aroundV_lt (n := x) (show (0 : Int) < (n : Int) by omega)
    rw [hix] at hsm
    have hi : i < n := by omega
    have hars := fun W => around_any x n W hx1 hx2 (by omega) (by omega)
    rw [hix] at hars
    have HAS := Lib.hid hars
    have hio : i < s.cnt.length := by have := HDW.out.dc.ln; omega
    have hcn := HO.out.cnt _ (gn_mem hio)
    have ht0 : 0 ≤ t := HTT.out.1
    have hE := HEE.out
    have hK := HK.out
    have O := HO.out
    have hc : ∀ W, LkM W B { h with X := fun k => h.X k ∨ k = w.heap.size + 1 + 1 } s → Calls Try.prog 18 #[.pointer (some ⟨h.g, 0, none⟩), .int .i64 (i : Int), .int .i64 t] W (fun e w' => e = .returned (.bool (downV s i t).2) ∧ LkM w' B { h with X := fun k => h.X k ∨ k = w.heap.size + 1 + 1 } ((downV s i t).1) ∧ Fr h.W W w') := fun W hl => down_any hl O (by omega) i hio t ht0
    have hdb : ∀ k, (ME w E) k → k < w.heap.size + 1 + 1 + 1 ∨ w.heap.size + 1 + 1 + 1 ≤ k → ¬ h.W k := fun k hk _ e => by
      have := HDW.out.hW k e
      rcases hk with hk | hk
      · exact hE k hk.1 hk.2 e
      · omega
    have HC := Lib.hid hc; have HDB := Lib.hid hdb
    clear hc hdb
    have hdoc := docDown W3 _ z p q n s HDW.out.dc (SzL.of O hK) i hi t hcn.1 (by omega)
    rw [HS2.out] at hdoc HC
    have HDC := Lib.hid hdoc
    clear hdoc hcn hio hsm hars ht0 hE O HEE HO HTT
    have hn0 : (0 : Int) < (n : Int) := by omega
    have hnz : ¬ (n : Int) = 0 := by omega
    go_wp2_with fail
    refine (HAS.out _).mono ?_
    rintro e w4 ⟨rfl, rfl⟩
    clear HAS
    go_wp2_with fail
    refine (HDC.out).mono ?_
    rintro e w4 ⟨z', rfl, hd4, hb⟩
    have zb := hb.size
    obtain ⟨nb, hnb⟩ : ∃ b, b = w4.heap.size := ⟨_, rfl⟩
    have hsz := HDW.out.sz
    have hb5 := Blk.new w4 27 (mkC z' p q n)
    have hb6 := (HDW.out.b6.below hb (by omega)).alloc (.cells (mkC z' p q n) 27)
    have hb8 := (HDW.out.b8.below hb (by omega)).alloc (.cells (mkC z' p q n) 27)
    have hl4 := (HDW.out.lk.below hb (Nat.le_refl _)).alloc (.cells (mkC z' p q n) 27)
    have hd5 : DocC (w4.alloc (.cells (mkC z' p q n) 27)) (ME w E) z' p q n s2  := (hd4.mono (E' := ME w E) (fun k hk _ => by rcases hk with hk | hk; exact .inl hk.1; exact .inr (by omega))).below ((Below.refl _ w4).alloc (Nat.le_refl _) _) (Nat.le_refl _)
    have hbel := (HDW.out.bel.trans (hb.mono (by omega))).alloc (by omega) (.cells (mkC z' p q n) 27)
    obtain ⟨W5, hW5⟩ : ∃ W, W = w4.alloc (.cells (mkC z' p q n) 27) := ⟨_, rfl⟩
    rw [← hW5] at hb5 hb6 hb8 hl4 hd5 hbel
    rw [← hnb] at hb5
    have H5 := Lib.hid hb5; have H6 := Lib.hid hb6; have H8 := Lib.hid hb8; have HL := Lib.hid hl4; have HD := Lib.hid hd5; have HBEL := Lib.hid hbel; have HW5 := Lib.hid hW5; have HNB := Lib.hid hnb; have HW := Lib.hid HDW.out.hW
    have zn : w.heap.size + 1 + 1 < nb := by omega
    have zn5 := hb5.lt
    clear x0 x1 x2 x3 x4 x5 x6 x7 x8 x9 d0 d1 d2 hb5 hb6 hb8 hl4 hd4 hd5 hbel hb hW5 hnb hsz HDW zb
    go_upto_region 13 with fail
    rw [← HW5.out, ← HNB.out]
    clear HW5 HNB
    have n0 : W5.cell? ⟨nb, 0, none⟩ = some (.int .i64 0) := (H5.out.cell 0).trans rfl
    have n1 : W5.cell? ⟨nb, 1, none⟩ = some (.slice none 0 0) := (H5.out.cell 1).trans rfl
    have n2 : W5.cell? ⟨nb, 2, none⟩ = some (.slice z'.A0 p z'.d0) := (H5.out.cell 2).trans rfl
    have n3 : W5.cell? ⟨nb, 3, none⟩ = some (.slice z'.A1 n z'.d1) := (H5.out.cell 3).trans rfl
    have n4 : W5.cell? ⟨nb, 4, none⟩ = some (.slice none 0 0) := (H5.out.cell 4).trans rfl
    have n5 : W5.cell? ⟨nb, 5, none⟩ = some (.slice z'.A2 p z'.d2) := (H5.out.cell 5).trans rfl
    have n6 : W5.cell? ⟨nb, 6, none⟩ = some (.slice z'.A3 q z'.d3) := (H5.out.cell 6).trans rfl
    have n7 : W5.cell? ⟨nb, 7, none⟩ = some (.slice z'.A4 n z'.d4) := (H5.out.cell 7).trans rfl
    have n8 : W5.cell? ⟨nb, 8, none⟩ = some (.slice none 0 0) := (H5.out.cell 8).trans rfl
    have n9 : W5.cell? ⟨nb, 9, none⟩ = some (.slice none 0 0) := (H5.out.cell 9).trans rfl
    have d0 : W5.cell? ⟨w.heap.size + 1, 0, none⟩ = some (.int .i64 5) := (H6.out.cell 0).trans rfl
    have d1 : W5.cell? ⟨w.heap.size + 1, 1, none⟩ = some (.int .i64 tv) := (H6.out.cell 1).trans rfl
    have d2 : W5.cell? ⟨w.heap.size + 1, 2, none⟩ = some (.int .i64 x) := (H6.out.cell 2).trans rfl
    have hks : ∀ W : World, (W.cell? ⟨nb, 0, none⟩ = some (.int .i64 0) ∧ W.cell? ⟨nb, 1, none⟩ = some (.slice none 0 0) ∧ W.cell? ⟨nb, 2, none⟩ = some (.slice z'.A0 p z'.d0) ∧ W.cell? ⟨nb, 3, none⟩ = some (.slice z'.A1 n z'.d1) ∧ W.cell? ⟨nb, 4, none⟩ = some (.slice none 0 0) ∧ W.cell? ⟨nb, 5, none⟩ = some (.slice z'.A2 p z'.d2) ∧ W.cell? ⟨nb, 6, none⟩ = some (.slice z'.A3 q z'.d3) ∧ W.cell? ⟨nb, 7, none⟩ = some (.slice z'.A4 n z'.d4) ∧ W.cell? ⟨nb, 8, none⟩ = some (.slice none 0 0) ∧ W.cell? ⟨nb, 9, none⟩ = some (.slice none 0 0)) → ((((((((((W.setCell ⟨w.heap.size + 1 + 1, 0, none⟩ (.int .i64 0)).setCell ⟨w.heap.size + 1 + 1, 1, none⟩ (.slice none 0 0)).setCell ⟨w.heap.size + 1 + 1, 2, none⟩ (.slice z'.A0 p z'.d0)).setCell ⟨w.heap.size + 1 + 1, 3, none⟩ (.slice z'.A1 n z'.d1)).setCell ⟨w.heap.size + 1 + 1, 4, none⟩ (.slice none 0 0)).setCell ⟨w.heap.size + 1 + 1, 5, none⟩ (.slice z'.A2 p z'.d2)).setCell ⟨w.heap.size + 1 + 1, 6, none⟩ (.slice z'.A3 q z'.d3)).setCell ⟨w.heap.size + 1 + 1, 7, none⟩ (.slice z'.A4 n z'.d4)).setCell ⟨w.heap.size + 1 + 1, 8, none⟩ (.slice none 0 0)).setCell ⟨w.heap.size + 1 + 1, 9, none⟩ (.slice none 0 0)).cell? ⟨nb, 0, none⟩ = some (.int .i64 0) ∧ ((((((((((W.setCell ⟨w.heap.size + 1 + 1, 0, none⟩ (.int .i64 0)).setCell ⟨w.heap.size + 1 + 1, 1, none⟩ (.slice none 0 0)).setCell ⟨w.heap.size + 1 + 1, 2, none⟩ (.slice z'.A0 p z'.d0)).setCell ⟨w.heap.size + 1 + 1, 3, none⟩ (.slice z'.A1 n z'.d1)).setCell ⟨w.heap.size + 1 + 1, 4, none⟩ (.slice none 0 0)).setCell ⟨w.heap.size + 1 + 1, 5, none⟩ (.slice z'.A2 p z'.d2)).setCell ⟨w.heap.size + 1 + 1, 6, none⟩ (.slice z'.A3 q z'.d3)).setCell ⟨w.heap.size + 1 + 1, 7, none⟩ (.slice z'.A4 n z'.d4)).setCell ⟨w.heap.size + 1 + 1, 8, none⟩ (.slice none 0 0)).setCell ⟨w.heap.size + 1 + 1, 9, none⟩ (.slice none 0 0)).cell? ⟨nb, 1, none⟩ = some (.slice none 0 0) ∧ ((((((((((W.setCell ⟨w.heap.size + 1 + 1, 0, none⟩ (.int .i64 0)).setCell ⟨w.heap.size + 1 + 1, 1, none⟩ (.slice none 0 0)).setCell ⟨w.heap.size + 1 + 1, 2, none⟩ (.slice z'.A0 p z'.d0)).setCell ⟨w.heap.size + 1 + 1, 3, none⟩ (.slice z'.A1 n z'.d1)).setCell ⟨w.heap.size + 1 + 1, 4, none⟩ (.slice none 0 0)).setCell ⟨w.heap.size + 1 + 1, 5, none⟩ (.slice z'.A2 p z'.d2)).setCell ⟨w.heap.size + 1 + 1, 6, none⟩ (.slice z'.A3 q z'.d3)).setCell ⟨w.heap.size + 1 + 1, 7, none⟩ (.slice z'.A4 n z'.d4)).setCell ⟨w.heap.size + 1 + 1, 8, none⟩ (.slice none 0 0)).setCell ⟨w.heap.size + 1 + 1, 9, none⟩ (.slice none 0 0)).cell? ⟨nb, 2, none⟩ = some (.slice z'.A0 p z'.d0) ∧ ((((((((((W.setCell ⟨w.heap.size + 1 + 1, 0, none⟩ (.int .i64 0)).setCell ⟨w.heap.size + 1 + 1, 1, none⟩ (.slice none 0 0)).setCell ⟨w.heap.size + 1 + 1, 2, none⟩ (.slice z'.A0 p z'.d0)).setCell ⟨w.heap.size + 1 + 1, 3, none⟩ (.slice z'.A1 n z'.d1)).setCell ⟨w.heap.size + 1 + 1, 4, none⟩ (.slice none 0 0)).setCell ⟨w.heap.size + 1 + 1, 5, none⟩ (.slice z'.A2 p z'.d2)).setCell ⟨w.heap.size + 1 + 1, 6, none⟩ (.slice z'.A3 q z'.d3)).setCell ⟨w.heap.size + 1 + 1, 7, none⟩ (.slice z'.A4 n z'.d4)).setCell ⟨w.heap.size + 1 + 1, 8, none⟩ (.slice none 0 0)).setCell ⟨w.heap.size + 1 + 1, 9, none⟩ (.slice none 0 0)).cell? ⟨nb, 3, none⟩ = some (.slice z'.A1 n z'.d1) ∧ ((((((((((W.setCell ⟨w.heap.size + 1 + 1, 0, none⟩ (.int .i64 0)).setCell ⟨w.heap.size + 1 + 1, 1, none⟩ (.slice none 0 0)).setCell ⟨w.heap.size + 1 + 1, 2, none⟩ (.slice z'.A0 p z'.d0)).setCell ⟨w.heap.size + 1 + 1, 3, none⟩ (.slice z'.A1 n z'.d1)).setCell ⟨w.heap.size + 1 + 1, 4, none⟩ (.slice none 0 0)).setCell ⟨w.heap.size + 1 + 1, 5, none⟩ (.slice z'.A2 p z'.d2)).setCell ⟨w.heap.size + 1 + 1, 6, none⟩ (.slice z'.A3 q z'.d3)).setCell ⟨w.heap.size + 1 + 1, 7, none⟩ (.slice z'.A4 n z'.d4)).setCell ⟨w.heap.size + 1 + 1, 8, none⟩ (.slice none 0 0)).setCell ⟨w.heap.size + 1 + 1, 9, none⟩ (.slice none 0 0)).cell? ⟨nb, 4, none⟩ = some (.slice none 0 0) ∧ ((((((((((W.setCell ⟨w.heap.size + 1 + 1, 0, none⟩ (.int .i64 0)).setCell ⟨w.heap.size + 1 + 1, 1, none⟩ (.slice none 0 0)).setCell ⟨w.heap.size + 1 + 1, 2, none⟩ (.slice z'.A0 p z'.d0)).setCell ⟨w.heap.size + 1 + 1, 3, none⟩ (.slice z'.A1 n z'.d1)).setCell ⟨w.heap.size + 1 + 1, 4, none⟩ (.slice none 0 0)).setCell ⟨w.heap.size + 1 + 1, 5, none⟩ (.slice z'.A2 p z'.d2)).setCell ⟨w.heap.size + 1 + 1, 6, none⟩ (.slice z'.A3 q z'.d3)).setCell ⟨w.heap.size + 1 + 1, 7, none⟩ (.slice z'.A4 n z'.d4)).setCell ⟨w.heap.size + 1 + 1, 8, none⟩ (.slice none 0 0)).setCell ⟨w.heap.size + 1 + 1, 9, none⟩ (.slice none 0 0)).cell? ⟨nb, 5, none⟩ = some (.slice z'.A2 p z'.d2) ∧ ((((((((((W.setCell ⟨w.heap.size + 1 + 1, 0, none⟩ (.int .i64 0)).setCell ⟨w.heap.size + 1 + 1, 1, none⟩ (.slice none 0 0)).setCell ⟨w.heap.size + 1 + 1, 2, none⟩ (.slice z'.A0 p z'.d0)).setCell ⟨w.heap.size + 1 + 1, 3, none⟩ (.slice z'.A1 n z'.d1)).setCell ⟨w.heap.size + 1 + 1, 4, none⟩ (.slice none 0 0)).setCell ⟨w.heap.size + 1 + 1, 5, none⟩ (.slice z'.A2 p z'.d2)).setCell ⟨w.heap.size + 1 + 1, 6, none⟩ (.slice z'.A3 q z'.d3)).setCell ⟨w.heap.size + 1 + 1, 7, none⟩ (.slice z'.A4 n z'.d4)).setCell ⟨w.heap.size + 1 + 1, 8, none⟩ (.slice none 0 0)).setCell ⟨w.heap.size + 1 + 1, 9, none⟩ (.slice none 0 0)).cell? ⟨nb, 6, none⟩ = some (.slice z'.A3 q z'.d3) ∧ ((((((((((W.setCell ⟨w.heap.size + 1 + 1, 0, none⟩ (.int .i64 0)).setCell ⟨w.heap.size + 1 + 1, 1, none⟩ (.slice none 0 0)).setCell ⟨w.heap.size + 1 + 1, 2, none⟩ (.slice z'.A0 p z'.d0)).setCell ⟨w.heap.size + 1 + 1, 3, none⟩ (.slice z'.A1 n z'.d1)).setCell ⟨w.heap.size + 1 + 1, 4, none⟩ (.slice none 0 0)).setCell ⟨w.heap.size + 1 + 1, 5, none⟩ (.slice z'.A2 p z'.d2)).setCell ⟨w.heap.size + 1 + 1, 6, none⟩ (.slice z'.A3 q z'.d3)).setCell ⟨w.heap.size + 1 + 1, 7, none⟩ (.slice z'.A4 n z'.d4)).setCell ⟨w.heap.size + 1 + 1, 8, none⟩ (.slice none 0 0)).setCell ⟨w.heap.size + 1 + 1, 9, none⟩ (.slice none 0 0)).cell? ⟨nb, 7, none⟩ = some (.slice z'.A4 n z'.d4) ∧ ((((((((((W.setCell ⟨w.heap.size + 1 + 1, 0, none⟩ (.int .i64 0)).setCell ⟨w.heap.size + 1 + 1, 1, none⟩ (.slice none 0 0)).setCell ⟨w.heap.size + 1 + 1, 2, none⟩ (.slice z'.A0 p z'.d0)).setCell ⟨w.heap.size + 1 + 1, 3, none⟩ (.slice z'.A1 n z'.d1)).setCell ⟨w.heap.size + 1 + 1, 4, none⟩ (.slice none 0 0)).setCell ⟨w.heap.size + 1 + 1, 5, none⟩ (.slice z'.A2 p z'.d2)).setCell ⟨w.heap.size + 1 + 1, 6, none⟩ (.slice z'.A3 q z'.d3)).setCell ⟨w.heap.size + 1 + 1, 7, none⟩ (.slice z'.A4 n z'.d4)).setCell ⟨w.heap.size + 1 + 1, 8, none⟩ (.slice none 0 0)).setCell ⟨w.heap.size + 1 + 1, 9, none⟩ (.slice none 0 0)).cell? ⟨nb, 8, none⟩ = some (.slice none 0 0) ∧ ((((((((((W.setCell ⟨w.heap.size + 1 + 1, 0, none⟩ (.int .i64 0)).setCell ⟨w.heap.size + 1 + 1, 1, none⟩ (.slice none 0 0)).setCell ⟨w.heap.size + 1 + 1, 2, none⟩ (.slice z'.A0 p z'.d0)).setCell ⟨w.heap.size + 1 + 1, 3, none⟩ (.slice z'.A1 n z'.d1)).setCell ⟨w.heap.size + 1 + 1, 4, none⟩ (.slice none 0 0)).setCell ⟨w.heap.size + 1 + 1, 5, none⟩ (.slice z'.A2 p z'.d2)).setCell ⟨w.heap.size + 1 + 1, 6, none⟩ (.slice z'.A3 q z'.d3)).setCell ⟨w.heap.size + 1 + 1, 7, none⟩ (.slice z'.A4 n z'.d4)).setCell ⟨w.heap.size + 1 + 1, 8, none⟩ (.slice none 0 0)).setCell ⟨w.heap.size + 1 + 1, 9, none⟩ (.slice none 0 0)).cell? ⟨nb, 9, none⟩ = some (.slice none 0 0) := fun W h9 => cells10_keep W (w.heap.size + 1 + 1) nb (by omega) _ _ _ _ _ _ _ _ _ _ _ _ _ _ _ _ _ _ _ _ h9
    have KS := Lib.hid hks
    clear hks
    have hc5 := HC.out W5.drew (HL.out.drewN 1)
    have HC5 := Lib.hid hc5
    clear hc5 HC
    go_region_held3 (fun w' => w'.cell? ⟨nb, 0, none⟩ = some (.int .i64 0) ∧ w'.cell? ⟨nb, 1, none⟩ = some (.slice none 0 0) ∧ w'.cell? ⟨nb, 2, none⟩ = some (.slice z'.A0 p z'.d0) ∧ w'.cell? ⟨nb, 3, none⟩ = some (.slice z'.A1 n z'.d1) ∧ w'.cell? ⟨nb, 4, none⟩ = some (.slice none 0 0) ∧ w'.cell? ⟨nb, 5, none⟩ = some (.slice z'.A2 p z'.d2) ∧ w'.cell? ⟨nb, 6, none⟩ = some (.slice z'.A3 q z'.d3) ∧ w'.cell? ⟨nb, 7, none⟩ = some (.slice z'.A4 n z'.d4) ∧ w'.cell? ⟨nb, 8, none⟩ = some (.slice none 0 0) ∧ w'.cell? ⟨nb, 9, none⟩ = some (.slice none 0 0))
      (first | with_reducible exact ⟨n0, n1, n2, n3, n4, n5, n6, n7, n8, n9⟩ | with_reducible exact ⟨m0, m1, m2, m3, m4, m5, m6, m7, m8, m9⟩ | with_reducible exact KS.out _ ⟨m0, m1, m2, m3, m4, m5, m6, m7, m8, m9⟩ | go_keep)
      ((go_simp; with_reducible refine (HC5.out).mono ?_
        rintro e w6 ⟨rfl, hq, hf⟩
        have k5 := hf.blk H5.out (fun e => by have := HW.out _ e; omega)
        have k8 := hf.blk H8.out (fun e => by have := HW.out _ e; omega)
        have m0 : w6.cell? ⟨nb, 0, none⟩ = some (.int .i64 0) := (k5.cell 0).trans rfl
        have m1 : w6.cell? ⟨nb, 1, none⟩ = some (.slice none 0 0) := (k5.cell 1).trans rfl
        have m2 : w6.cell? ⟨nb, 2, none⟩ = some (.slice z'.A0 p z'.d0) := (k5.cell 2).trans rfl
        have m3 : w6.cell? ⟨nb, 3, none⟩ = some (.slice z'.A1 n z'.d1) := (k5.cell 3).trans rfl
        have m4 : w6.cell? ⟨nb, 4, none⟩ = some (.slice none 0 0) := (k5.cell 4).trans rfl
        have m5 : w6.cell? ⟨nb, 5, none⟩ = some (.slice z'.A2 p z'.d2) := (k5.cell 5).trans rfl
        have m6 : w6.cell? ⟨nb, 6, none⟩ = some (.slice z'.A3 q z'.d3) := (k5.cell 6).trans rfl
        have m7 : w6.cell? ⟨nb, 7, none⟩ = some (.slice z'.A4 n z'.d4) := (k5.cell 7).trans rfl
        have m8 : w6.cell? ⟨nb, 8, none⟩ = some (.slice none 0 0) := (k5.cell 8).trans rfl
        have m9 : w6.cell? ⟨nb, 9, none⟩ = some (.slice none 0 0) := (k5.cell 9).trans rfl
        have t0 : w6.cell? ⟨w.heap.size + 1 + 1, 0, none⟩ = some (.int .i64 0) := (k8.cell 0).trans rfl
        have u0 : w6.frozen? ⟨w.heap.size + 1 + 1, 0, none⟩ = false := k8.frozen 0
        have t1 : w6.cell? ⟨w.heap.size + 1 + 1, 1, none⟩ = some (.slice none 0 0) := (k8.cell 1).trans rfl
        have u1 : w6.frozen? ⟨w.heap.size + 1 + 1, 1, none⟩ = false := k8.frozen 1
        have t2 : w6.cell? ⟨w.heap.size + 1 + 1, 2, none⟩ = some (.slice none 0 0) := (k8.cell 2).trans rfl
        have u2 : w6.frozen? ⟨w.heap.size + 1 + 1, 2, none⟩ = false := k8.frozen 2
        have t3 : w6.cell? ⟨w.heap.size + 1 + 1, 3, none⟩ = some (.slice none 0 0) := (k8.cell 3).trans rfl
        have u3 : w6.frozen? ⟨w.heap.size + 1 + 1, 3, none⟩ = false := k8.frozen 3
        have t4 : w6.cell? ⟨w.heap.size + 1 + 1, 4, none⟩ = some (.slice none 0 0) := (k8.cell 4).trans rfl
        have u4 : w6.frozen? ⟨w.heap.size + 1 + 1, 4, none⟩ = false := k8.frozen 4
        have t5 : w6.cell? ⟨w.heap.size + 1 + 1, 5, none⟩ = some (.slice none 0 0) := (k8.cell 5).trans rfl
        have u5 : w6.frozen? ⟨w.heap.size + 1 + 1, 5, none⟩ = false := k8.frozen 5
        have t6 : w6.cell? ⟨w.heap.size + 1 + 1, 6, none⟩ = some (.slice none 0 0) := (k8.cell 6).trans rfl
        have u6 : w6.frozen? ⟨w.heap.size + 1 + 1, 6, none⟩ = false := k8.frozen 6
        have t7 : w6.cell? ⟨w.heap.size + 1 + 1, 7, none⟩ = some (.slice none 0 0) := (k8.cell 7).trans rfl
        have u7 : w6.frozen? ⟨w.heap.size + 1 + 1, 7, none⟩ = false := k8.frozen 7
        have t8 : w6.cell? ⟨w.heap.size + 1 + 1, 8, none⟩ = some (.slice none 0 0) := (k8.cell 8).trans rfl
        have u8 : w6.frozen? ⟨w.heap.size + 1 + 1, 8, none⟩ = false := k8.frozen 8
        have t9 : w6.cell? ⟨w.heap.size + 1 + 1, 9, none⟩ = some (.slice none 0 0) := (k8.cell 9).trans rfl
        have u9 : w6.frozen? ⟨w.heap.size + 1 + 1, 9, none⟩ = false := k8.frozen 9
        skip))
    all_goals
      clear n0 n1 n2 n3 n4 n5 n6 n7 n8 n9 m0 m1 m2 m3 m4 m5 m6 m7 m8 m9 d0 d1 d2
      go_wp2_with fail
      have hE := mu_end (E := E) k8 hq ((HD.out.drewN 1).fr hf (fun i hi _ e => HDB.out i hi (by omega) e)) ((((Fr.of_below HBEL.out).mono (S := h.W) (fun i hi e => by omega)).drewN 1).trans hf (fun i _ e => e)) HGB.out HW.out
      refine bodyPost_ret (v := .tuple #[.agg (mkC z' p q n), .bool true]) (res9_1 rfl _ _ (w.heap.size + 1 + 1) 27 _ (0, 0) _ _ rfl rfl hE.2 Try.underlying27 rfl (by kernel_rfl)) rfl (Or.inr hE.1)
set_option maxRecDepth 100000 in
set_option maxHeartbeats 8000000 in
theorem does_upneg (w : World) (B : Nat) (h : LkH) (E : Nat → Prop) (z : LkQ) (p q n : Nat) (s : Lk) (tv x : Int) (hl : LkM w B h s) (hd : DocC w E z p q n s) {K : Nat} (O : LkOk K s) (hK : K ≤ 100000) (hE : ∀ k, E k → k < w.heap.size → ¬ h.W k) (hx1 : -9223372036854775808 ≤ x) (hx2 : x ≤ 9223372036854775807) (ht1 : -9223372036854775808 ≤ tv) (ht2 : tv ≤ 9223372036854775807) (kind : Int) (hkn : ¬ 0 ≤ kind) (hk5 : ¬ kind = 5)(i : Nat) (hn : 0 < n) (hn2 : n ≤ 8) (hix : aroundV x n = (i : Int)) (s2 : Lk) (a1 : Int) (hs2 : upV s i = (s2, a1)):
    Calls Try.prog 9 #[.pointer (some ⟨h.g, 0, none⟩), .agg (mkC z p q n), .agg #[.int .i64 kind, .int .i64 tv, .int .i64 x]] w (fun e w' => MuPost w B h E p q n s e w' ∨ MuPost w B h E p q n s2 e w') := by
  have hdw := MuW.new w kind tv x hl hd
  obtain ⟨W3, hW3⟩ : ∃ W, W = (((w.alloc (.cells (mkC z p q n) 27)).alloc (.cells #[.int .i64 kind, .int .i64 tv, .int .i64 x] 34)).alloc (.cells zeroC 27)) := ⟨_, rfl⟩
  rw [← hW3] at hdw
  have hgb := hl.box.lt
  have HDW0 := Lib.hid hdw; have HW3 := Lib.hid hW3; have HGB := Lib.hid hgb
  have htt := aroundV_lt (n := tv) (show (0 : Int) < 8 by omega)
  have har := fun W => around_any tv 8 W ht1 ht2 (by omega) (by omega)
  generalize aroundV tv 8 = t at *
  have HAR := Lib.hid har
  have hwa := lawWaits_any W3 _ z p q n s hdw.dc (SzL.of O hK) t
  have HWA := Lib.hid hwa
  have HEE := Lib.hid hE; have HO := Lib.hid O; have HK := Lib.hid hK; have HTT := Lib.hid htt
  obtain ⟨x0, x1, x2, x3, x4, x5, x6, x7, x8, x9⟩ := blk10 hdw.b5
  have d0 : W3.cell? ⟨w.heap.size + 1, 0, none⟩ = some (.int .i64 kind) := (hdw.b6.cell 0).trans rfl
  have d1 : W3.cell? ⟨w.heap.size + 1, 1, none⟩ = some (.int .i64 tv) := (hdw.b6.cell 1).trans rfl
  have d2 : W3.cell? ⟨w.heap.size + 1, 2, none⟩ = some (.int .i64 x) := (hdw.b6.cell 2).trans rfl
  have HS2 := Lib.hid hs2
  clear hs2
  clear hl hd hdw hW3 hgb har hwa hE O hK htt ht1 ht2
  go_enter Try.func9, Try.ntmps9
  go_upto_region 1 with fail
  rw [← HW3.out]
  clear HW3
  go_wp2_with fail
  refine (HAR.out _).mono ?_
  rintro e w4 ⟨rfl, rfl⟩
  clear HAR
  go_wp2_with fail
  refine (HWA.out).mono ?_
  rintro e W3 ⟨bw, rfl, hb4⟩
  have hdw4 : MuW w W3 B h E z p q n s kind tv x := HDW0.out.later hb4
  have HDW := Lib.hid hdw4
  clear HWA HDW0 x0 x1 x2 x3 x4 x5 x6 x7 x8 x9 d0 d1 d2 hb4
  obtain ⟨x0, x1, x2, x3, x4, x5, x6, x7, x8, x9⟩ := blk10 hdw4.b5
  have d0 : W3.cell? ⟨w.heap.size + 1, 0, none⟩ = some (.int .i64 kind) := (hdw4.b6.cell 0).trans rfl
  have d1 : W3.cell? ⟨w.heap.size + 1, 1, none⟩ = some (.int .i64 tv) := (hdw4.b6.cell 1).trans rfl
  have d2 : W3.cell? ⟨w.heap.size + 1, 2, none⟩ = some (.int .i64 x) := (hdw4.b6.cell 2).trans rfl
  clear hdw4
  cases bw with
  | true =>
    have hE := mu_end (E := E) HDW.out.b8 HDW.out.lk (HDW.out.dc.mono (E' := ME w E) (fun i hi _ => .inl hi)) ((Fr.of_below HDW.out.bel).mono (S := h.W) (fun i hi e => by omega)) HGB.out HDW.out.hW
    have HE := Lib.hid hE
    have t0 : W3.cell? ⟨w.heap.size + 1 + 1, 0, none⟩ = some (.int .i64 0) := (HDW.out.b8.cell 0).trans rfl
    have u0 : W3.frozen? ⟨w.heap.size + 1 + 1, 0, none⟩ = false := HDW.out.b8.frozen 0
    have t1 : W3.cell? ⟨w.heap.size + 1 + 1, 1, none⟩ = some (.slice none 0 0) := (HDW.out.b8.cell 1).trans rfl
    have u1 : W3.frozen? ⟨w.heap.size + 1 + 1, 1, none⟩ = false := HDW.out.b8.frozen 1
    have t2 : W3.cell? ⟨w.heap.size + 1 + 1, 2, none⟩ = some (.slice none 0 0) := (HDW.out.b8.cell 2).trans rfl
    have u2 : W3.frozen? ⟨w.heap.size + 1 + 1, 2, none⟩ = false := HDW.out.b8.frozen 2
    have t3 : W3.cell? ⟨w.heap.size + 1 + 1, 3, none⟩ = some (.slice none 0 0) := (HDW.out.b8.cell 3).trans rfl
    have u3 : W3.frozen? ⟨w.heap.size + 1 + 1, 3, none⟩ = false := HDW.out.b8.frozen 3
    have t4 : W3.cell? ⟨w.heap.size + 1 + 1, 4, none⟩ = some (.slice none 0 0) := (HDW.out.b8.cell 4).trans rfl
    have u4 : W3.frozen? ⟨w.heap.size + 1 + 1, 4, none⟩ = false := HDW.out.b8.frozen 4
    have t5 : W3.cell? ⟨w.heap.size + 1 + 1, 5, none⟩ = some (.slice none 0 0) := (HDW.out.b8.cell 5).trans rfl
    have u5 : W3.frozen? ⟨w.heap.size + 1 + 1, 5, none⟩ = false := HDW.out.b8.frozen 5
    have t6 : W3.cell? ⟨w.heap.size + 1 + 1, 6, none⟩ = some (.slice none 0 0) := (HDW.out.b8.cell 6).trans rfl
    have u6 : W3.frozen? ⟨w.heap.size + 1 + 1, 6, none⟩ = false := HDW.out.b8.frozen 6
    have t7 : W3.cell? ⟨w.heap.size + 1 + 1, 7, none⟩ = some (.slice none 0 0) := (HDW.out.b8.cell 7).trans rfl
    have u7 : W3.frozen? ⟨w.heap.size + 1 + 1, 7, none⟩ = false := HDW.out.b8.frozen 7
    have t8 : W3.cell? ⟨w.heap.size + 1 + 1, 8, none⟩ = some (.slice none 0 0) := (HDW.out.b8.cell 8).trans rfl
    have u8 : W3.frozen? ⟨w.heap.size + 1 + 1, 8, none⟩ = false := HDW.out.b8.frozen 8
    have t9 : W3.cell? ⟨w.heap.size + 1 + 1, 9, none⟩ = some (.slice none 0 0) := (HDW.out.b8.cell 9).trans rfl
    have u9 : W3.frozen? ⟨w.heap.size + 1 + 1, 9, none⟩ = false := HDW.out.b8.frozen 9
    clear hE HDW HGB d1
    go_wp2_with fail
    refine bodyPost_ret (v := .tuple #[.agg (mkC z p q n), .bool true]) (res9_1 rfl _ _ (w.heap.size + 1 + 1) 27 _ (0, 0) _ _ rfl rfl HE.out.2 Try.underlying27 rfl (by kernel_rfl)) rfl ?_
    first | exact Or.inl HE.out.1 | exact HE.out.1
  | false =>
    have hsm := aroundV_lt (n := x) (show (0 : Int) < (n : Int) by omega)
    rw [hix] at hsm
    have hi : i < n := by omega
    have hars := fun W => around_any x n W hx1 hx2 (by omega) (by omega)
    rw [hix] at hars
    have HAS := Lib.hid hars
    have hio : i < s.cnt.length := by have := HDW.out.dc.ln; omega
    have hcn := HO.out.cnt _ (gn_mem hio)
    have ht0 : 0 ≤ t := HTT.out.1
    have hE := HEE.out
    have hK := HK.out
    have O := HO.out
    have hc : ∀ W, LkM W B { h with X := fun k => h.X k ∨ k = w.heap.size + 1 + 1 } s → Calls Try.prog 19 #[.pointer (some ⟨h.g, 0, none⟩), .int .i64 (i : Int)] W (fun e w' => e = .returned (.int .i64 (upV s i).2) ∧ LkM w' B { h with X := fun k => h.X k ∨ k = w.heap.size + 1 + 1 } ((upV s i).1) ∧ Fr h.W W w') := fun W hl => up_any hl O (by omega) i hio
    have hdb : ∀ k, (ME w E) k → k < w.heap.size + 1 + 1 + 1 ∨ w.heap.size + 1 + 1 + 1 ≤ k → ¬ h.W k := fun k hk _ e => by
      have := HDW.out.hW k e
      rcases hk with hk | hk
      · exact hE k hk.1 hk.2 e
      · omega
    have HC := Lib.hid hc; have HDB := Lib.hid hdb
    clear hc hdb
    have hdoc := docUp W3 _ z p q n s HDW.out.dc (SzL.of O hK) i hi hcn.1 (by omega)
    rw [HS2.out] at hdoc HC
    have HDC := Lib.hid hdoc
    clear hdoc hcn hio hsm hars ht0 hE O HEE HO HTT
    have hn0 : (0 : Int) < (n : Int) := by omega
    have hnz : ¬ (n : Int) = 0 := by omega
    go_wp2_with fail
    refine (HAS.out _).mono ?_
    rintro e w4 ⟨rfl, rfl⟩
    clear HAS
    go_wp2_with fail
    refine (HDC.out).mono ?_
    rintro e w4 ⟨z', rfl, hd4, hb⟩
    have zb := hb.size
    obtain ⟨nb, hnb⟩ : ∃ b, b = w4.heap.size := ⟨_, rfl⟩
    have hsz := HDW.out.sz
    have hb5 := Blk.new w4 27 (mkC z' p q n)
    have hb6 := (HDW.out.b6.below hb (by omega)).alloc (.cells (mkC z' p q n) 27)
    have hb8 := (HDW.out.b8.below hb (by omega)).alloc (.cells (mkC z' p q n) 27)
    have hl4 := (HDW.out.lk.below hb (Nat.le_refl _)).alloc (.cells (mkC z' p q n) 27)
    have hd5 : DocC (w4.alloc (.cells (mkC z' p q n) 27)) (ME w E) z' p q n s2  := (hd4.mono (E' := ME w E) (fun k hk _ => by rcases hk with hk | hk; exact .inl hk.1; exact .inr (by omega))).below ((Below.refl _ w4).alloc (Nat.le_refl _) _) (Nat.le_refl _)
    have hbel := (HDW.out.bel.trans (hb.mono (by omega))).alloc (by omega) (.cells (mkC z' p q n) 27)
    obtain ⟨W5, hW5⟩ : ∃ W, W = w4.alloc (.cells (mkC z' p q n) 27) := ⟨_, rfl⟩
    rw [← hW5] at hb5 hb6 hb8 hl4 hd5 hbel
    rw [← hnb] at hb5
    have H5 := Lib.hid hb5; have H6 := Lib.hid hb6; have H8 := Lib.hid hb8; have HL := Lib.hid hl4; have HD := Lib.hid hd5; have HBEL := Lib.hid hbel; have HW5 := Lib.hid hW5; have HNB := Lib.hid hnb; have HW := Lib.hid HDW.out.hW
    have zn : w.heap.size + 1 + 1 < nb := by omega
    have zn5 := hb5.lt
    clear x0 x1 x2 x3 x4 x5 x6 x7 x8 x9 d0 d1 d2 hb5 hb6 hb8 hl4 hd4 hd5 hbel hb hW5 hnb hsz HDW zb
    go_upto_region 15 with fail
    rw [← HW5.out, ← HNB.out]
    clear HW5 HNB
    have n0 : W5.cell? ⟨nb, 0, none⟩ = some (.int .i64 0) := (H5.out.cell 0).trans rfl
    have n1 : W5.cell? ⟨nb, 1, none⟩ = some (.slice none 0 0) := (H5.out.cell 1).trans rfl
    have n2 : W5.cell? ⟨nb, 2, none⟩ = some (.slice z'.A0 p z'.d0) := (H5.out.cell 2).trans rfl
    have n3 : W5.cell? ⟨nb, 3, none⟩ = some (.slice z'.A1 n z'.d1) := (H5.out.cell 3).trans rfl
    have n4 : W5.cell? ⟨nb, 4, none⟩ = some (.slice none 0 0) := (H5.out.cell 4).trans rfl
    have n5 : W5.cell? ⟨nb, 5, none⟩ = some (.slice z'.A2 p z'.d2) := (H5.out.cell 5).trans rfl
    have n6 : W5.cell? ⟨nb, 6, none⟩ = some (.slice z'.A3 q z'.d3) := (H5.out.cell 6).trans rfl
    have n7 : W5.cell? ⟨nb, 7, none⟩ = some (.slice z'.A4 n z'.d4) := (H5.out.cell 7).trans rfl
    have n8 : W5.cell? ⟨nb, 8, none⟩ = some (.slice none 0 0) := (H5.out.cell 8).trans rfl
    have n9 : W5.cell? ⟨nb, 9, none⟩ = some (.slice none 0 0) := (H5.out.cell 9).trans rfl
    have d0 : W5.cell? ⟨w.heap.size + 1, 0, none⟩ = some (.int .i64 kind) := (H6.out.cell 0).trans rfl
    have d1 : W5.cell? ⟨w.heap.size + 1, 1, none⟩ = some (.int .i64 tv) := (H6.out.cell 1).trans rfl
    have d2 : W5.cell? ⟨w.heap.size + 1, 2, none⟩ = some (.int .i64 x) := (H6.out.cell 2).trans rfl
    have hks : ∀ W : World, (W.cell? ⟨nb, 0, none⟩ = some (.int .i64 0) ∧ W.cell? ⟨nb, 1, none⟩ = some (.slice none 0 0) ∧ W.cell? ⟨nb, 2, none⟩ = some (.slice z'.A0 p z'.d0) ∧ W.cell? ⟨nb, 3, none⟩ = some (.slice z'.A1 n z'.d1) ∧ W.cell? ⟨nb, 4, none⟩ = some (.slice none 0 0) ∧ W.cell? ⟨nb, 5, none⟩ = some (.slice z'.A2 p z'.d2) ∧ W.cell? ⟨nb, 6, none⟩ = some (.slice z'.A3 q z'.d3) ∧ W.cell? ⟨nb, 7, none⟩ = some (.slice z'.A4 n z'.d4) ∧ W.cell? ⟨nb, 8, none⟩ = some (.slice none 0 0) ∧ W.cell? ⟨nb, 9, none⟩ = some (.slice none 0 0)) → ((((((((((W.setCell ⟨w.heap.size + 1 + 1, 0, none⟩ (.int .i64 0)).setCell ⟨w.heap.size + 1 + 1, 1, none⟩ (.slice none 0 0)).setCell ⟨w.heap.size + 1 + 1, 2, none⟩ (.slice z'.A0 p z'.d0)).setCell ⟨w.heap.size + 1 + 1, 3, none⟩ (.slice z'.A1 n z'.d1)).setCell ⟨w.heap.size + 1 + 1, 4, none⟩ (.slice none 0 0)).setCell ⟨w.heap.size + 1 + 1, 5, none⟩ (.slice z'.A2 p z'.d2)).setCell ⟨w.heap.size + 1 + 1, 6, none⟩ (.slice z'.A3 q z'.d3)).setCell ⟨w.heap.size + 1 + 1, 7, none⟩ (.slice z'.A4 n z'.d4)).setCell ⟨w.heap.size + 1 + 1, 8, none⟩ (.slice none 0 0)).setCell ⟨w.heap.size + 1 + 1, 9, none⟩ (.slice none 0 0)).cell? ⟨nb, 0, none⟩ = some (.int .i64 0) ∧ ((((((((((W.setCell ⟨w.heap.size + 1 + 1, 0, none⟩ (.int .i64 0)).setCell ⟨w.heap.size + 1 + 1, 1, none⟩ (.slice none 0 0)).setCell ⟨w.heap.size + 1 + 1, 2, none⟩ (.slice z'.A0 p z'.d0)).setCell ⟨w.heap.size + 1 + 1, 3, none⟩ (.slice z'.A1 n z'.d1)).setCell ⟨w.heap.size + 1 + 1, 4, none⟩ (.slice none 0 0)).setCell ⟨w.heap.size + 1 + 1, 5, none⟩ (.slice z'.A2 p z'.d2)).setCell ⟨w.heap.size + 1 + 1, 6, none⟩ (.slice z'.A3 q z'.d3)).setCell ⟨w.heap.size + 1 + 1, 7, none⟩ (.slice z'.A4 n z'.d4)).setCell ⟨w.heap.size + 1 + 1, 8, none⟩ (.slice none 0 0)).setCell ⟨w.heap.size + 1 + 1, 9, none⟩ (.slice none 0 0)).cell? ⟨nb, 1, none⟩ = some (.slice none 0 0) ∧ ((((((((((W.setCell ⟨w.heap.size + 1 + 1, 0, none⟩ (.int .i64 0)).setCell ⟨w.heap.size + 1 + 1, 1, none⟩ (.slice none 0 0)).setCell ⟨w.heap.size + 1 + 1, 2, none⟩ (.slice z'.A0 p z'.d0)).setCell ⟨w.heap.size + 1 + 1, 3, none⟩ (.slice z'.A1 n z'.d1)).setCell ⟨w.heap.size + 1 + 1, 4, none⟩ (.slice none 0 0)).setCell ⟨w.heap.size + 1 + 1, 5, none⟩ (.slice z'.A2 p z'.d2)).setCell ⟨w.heap.size + 1 + 1, 6, none⟩ (.slice z'.A3 q z'.d3)).setCell ⟨w.heap.size + 1 + 1, 7, none⟩ (.slice z'.A4 n z'.d4)).setCell ⟨w.heap.size + 1 + 1, 8, none⟩ (.slice none 0 0)).setCell ⟨w.heap.size + 1 + 1, 9, none⟩ (.slice none 0 0)).cell? ⟨nb, 2, none⟩ = some (.slice z'.A0 p z'.d0) ∧ ((((((((((W.setCell ⟨w.heap.size + 1 + 1, 0, none⟩ (.int .i64 0)).setCell ⟨w.heap.size + 1 + 1, 1, none⟩ (.slice none 0 0)).setCell ⟨w.heap.size + 1 + 1, 2, none⟩ (.slice z'.A0 p z'.d0)).setCell ⟨w.heap.size + 1 + 1, 3, none⟩ (.slice z'.A1 n z'.d1)).setCell ⟨w.heap.size + 1 + 1, 4, none⟩ (.slice none 0 0)).setCell ⟨w.heap.size + 1 + 1, 5, none⟩ (.slice z'.A2 p z'.d2)).setCell ⟨w.heap.size + 1 + 1, 6, none⟩ (.slice z'.A3 q z'.d3)).setCell ⟨w.heap.size + 1 + 1, 7, none⟩ (.slice z'.A4 n z'.d4)).setCell ⟨w.heap.size + 1 + 1, 8, none⟩ (.slice none 0 0)).setCell ⟨w.heap.size + 1 + 1, 9, none⟩ (.slice none 0 0)).cell? ⟨nb, 3, none⟩ = some (.slice z'.A1 n z'.d1) ∧ ((((((((((W.setCell ⟨w.heap.size + 1 + 1, 0, none⟩ (.int .i64 0)).setCell ⟨w.heap.size + 1 + 1, 1, none⟩ (.slice none 0 0)).setCell ⟨w.heap.size + 1 + 1, 2, none⟩ (.slice z'.A0 p z'.d0)).setCell ⟨w.heap.size + 1 + 1, 3, none⟩ (.slice z'.A1 n z'.d1)).setCell ⟨w.heap.size + 1 + 1, 4, none⟩ (.slice none 0 0)).setCell ⟨w.heap.size + 1 + 1, 5, none⟩ (.slice z'.A2 p z'.d2)).setCell ⟨w.heap.size + 1 + 1, 6, none⟩ (.slice z'.A3 q z'.d3)).setCell ⟨w.heap.size + 1 + 1, 7, none⟩ (.slice z'.A4 n z'.d4)).setCell ⟨w.heap.size + 1 + 1, 8, none⟩ (.slice none 0 0)).setCell ⟨w.heap.size + 1 + 1, 9, none⟩ (.slice none 0 0)).cell? ⟨nb, 4, none⟩ = some (.slice none 0 0) ∧ ((((((((((W.setCell ⟨w.heap.size + 1 + 1, 0, none⟩ (.int .i64 0)).setCell ⟨w.heap.size + 1 + 1, 1, none⟩ (.slice none 0 0)).setCell ⟨w.heap.size + 1 + 1, 2, none⟩ (.slice z'.A0 p z'.d0)).setCell ⟨w.heap.size + 1 + 1, 3, none⟩ (.slice z'.A1 n z'.d1)).setCell ⟨w.heap.size + 1 + 1, 4, none⟩ (.slice none 0 0)).setCell ⟨w.heap.size + 1 + 1, 5, none⟩ (.slice z'.A2 p z'.d2)).setCell ⟨w.heap.size + 1 + 1, 6, none⟩ (.slice z'.A3 q z'.d3)).setCell ⟨w.heap.size + 1 + 1, 7, none⟩ (.slice z'.A4 n z'.d4)).setCell ⟨w.heap.size + 1 + 1, 8, none⟩ (.slice none 0 0)).setCell ⟨w.heap.size + 1 + 1, 9, none⟩ (.slice none 0 0)).cell? ⟨nb, 5, none⟩ = some (.slice z'.A2 p z'.d2) ∧ ((((((((((W.setCell ⟨w.heap.size + 1 + 1, 0, none⟩ (.int .i64 0)).setCell ⟨w.heap.size + 1 + 1, 1, none⟩ (.slice none 0 0)).setCell ⟨w.heap.size + 1 + 1, 2, none⟩ (.slice z'.A0 p z'.d0)).setCell ⟨w.heap.size + 1 + 1, 3, none⟩ (.slice z'.A1 n z'.d1)).setCell ⟨w.heap.size + 1 + 1, 4, none⟩ (.slice none 0 0)).setCell ⟨w.heap.size + 1 + 1, 5, none⟩ (.slice z'.A2 p z'.d2)).setCell ⟨w.heap.size + 1 + 1, 6, none⟩ (.slice z'.A3 q z'.d3)).setCell ⟨w.heap.size + 1 + 1, 7, none⟩ (.slice z'.A4 n z'.d4)).setCell ⟨w.heap.size + 1 + 1, 8, none⟩ (.slice none 0 0)).setCell ⟨w.heap.size + 1 + 1, 9, none⟩ (.slice none 0 0)).cell? ⟨nb, 6, none⟩ = some (.slice z'.A3 q z'.d3) ∧ ((((((((((W.setCell ⟨w.heap.size + 1 + 1, 0, none⟩ (.int .i64 0)).setCell ⟨w.heap.size + 1 + 1, 1, none⟩ (.slice none 0 0)).setCell ⟨w.heap.size + 1 + 1, 2, none⟩ (.slice z'.A0 p z'.d0)).setCell ⟨w.heap.size + 1 + 1, 3, none⟩ (.slice z'.A1 n z'.d1)).setCell ⟨w.heap.size + 1 + 1, 4, none⟩ (.slice none 0 0)).setCell ⟨w.heap.size + 1 + 1, 5, none⟩ (.slice z'.A2 p z'.d2)).setCell ⟨w.heap.size + 1 + 1, 6, none⟩ (.slice z'.A3 q z'.d3)).setCell ⟨w.heap.size + 1 + 1, 7, none⟩ (.slice z'.A4 n z'.d4)).setCell ⟨w.heap.size + 1 + 1, 8, none⟩ (.slice none 0 0)).setCell ⟨w.heap.size + 1 + 1, 9, none⟩ (.slice none 0 0)).cell? ⟨nb, 7, none⟩ = some (.slice z'.A4 n z'.d4) ∧ ((((((((((W.setCell ⟨w.heap.size + 1 + 1, 0, none⟩ (.int .i64 0)).setCell ⟨w.heap.size + 1 + 1, 1, none⟩ (.slice none 0 0)).setCell ⟨w.heap.size + 1 + 1, 2, none⟩ (.slice z'.A0 p z'.d0)).setCell ⟨w.heap.size + 1 + 1, 3, none⟩ (.slice z'.A1 n z'.d1)).setCell ⟨w.heap.size + 1 + 1, 4, none⟩ (.slice none 0 0)).setCell ⟨w.heap.size + 1 + 1, 5, none⟩ (.slice z'.A2 p z'.d2)).setCell ⟨w.heap.size + 1 + 1, 6, none⟩ (.slice z'.A3 q z'.d3)).setCell ⟨w.heap.size + 1 + 1, 7, none⟩ (.slice z'.A4 n z'.d4)).setCell ⟨w.heap.size + 1 + 1, 8, none⟩ (.slice none 0 0)).setCell ⟨w.heap.size + 1 + 1, 9, none⟩ (.slice none 0 0)).cell? ⟨nb, 8, none⟩ = some (.slice none 0 0) ∧ ((((((((((W.setCell ⟨w.heap.size + 1 + 1, 0, none⟩ (.int .i64 0)).setCell ⟨w.heap.size + 1 + 1, 1, none⟩ (.slice none 0 0)).setCell ⟨w.heap.size + 1 + 1, 2, none⟩ (.slice z'.A0 p z'.d0)).setCell ⟨w.heap.size + 1 + 1, 3, none⟩ (.slice z'.A1 n z'.d1)).setCell ⟨w.heap.size + 1 + 1, 4, none⟩ (.slice none 0 0)).setCell ⟨w.heap.size + 1 + 1, 5, none⟩ (.slice z'.A2 p z'.d2)).setCell ⟨w.heap.size + 1 + 1, 6, none⟩ (.slice z'.A3 q z'.d3)).setCell ⟨w.heap.size + 1 + 1, 7, none⟩ (.slice z'.A4 n z'.d4)).setCell ⟨w.heap.size + 1 + 1, 8, none⟩ (.slice none 0 0)).setCell ⟨w.heap.size + 1 + 1, 9, none⟩ (.slice none 0 0)).cell? ⟨nb, 9, none⟩ = some (.slice none 0 0) := fun W h9 => cells10_keep W (w.heap.size + 1 + 1) nb (by omega) _ _ _ _ _ _ _ _ _ _ _ _ _ _ _ _ _ _ _ _ h9
    have KS := Lib.hid hks
    clear hks
    have hc5 := HC.out W5.drew (HL.out.drewN 1)
    have HC5 := Lib.hid hc5
    clear hc5 HC
    go_region_held3 (fun w' => w'.cell? ⟨nb, 0, none⟩ = some (.int .i64 0) ∧ w'.cell? ⟨nb, 1, none⟩ = some (.slice none 0 0) ∧ w'.cell? ⟨nb, 2, none⟩ = some (.slice z'.A0 p z'.d0) ∧ w'.cell? ⟨nb, 3, none⟩ = some (.slice z'.A1 n z'.d1) ∧ w'.cell? ⟨nb, 4, none⟩ = some (.slice none 0 0) ∧ w'.cell? ⟨nb, 5, none⟩ = some (.slice z'.A2 p z'.d2) ∧ w'.cell? ⟨nb, 6, none⟩ = some (.slice z'.A3 q z'.d3) ∧ w'.cell? ⟨nb, 7, none⟩ = some (.slice z'.A4 n z'.d4) ∧ w'.cell? ⟨nb, 8, none⟩ = some (.slice none 0 0) ∧ w'.cell? ⟨nb, 9, none⟩ = some (.slice none 0 0))
      (first | with_reducible exact ⟨n0, n1, n2, n3, n4, n5, n6, n7, n8, n9⟩ | with_reducible exact ⟨m0, m1, m2, m3, m4, m5, m6, m7, m8, m9⟩ | with_reducible exact KS.out _ ⟨m0, m1, m2, m3, m4, m5, m6, m7, m8, m9⟩ | go_keep)
      ((go_simp; with_reducible refine (HC5.out).mono ?_
        rintro e w6 ⟨rfl, hq, hf⟩
        have k5 := hf.blk H5.out (fun e => by have := HW.out _ e; omega)
        have k8 := hf.blk H8.out (fun e => by have := HW.out _ e; omega)
        have m0 : w6.cell? ⟨nb, 0, none⟩ = some (.int .i64 0) := (k5.cell 0).trans rfl
        have m1 : w6.cell? ⟨nb, 1, none⟩ = some (.slice none 0 0) := (k5.cell 1).trans rfl
        have m2 : w6.cell? ⟨nb, 2, none⟩ = some (.slice z'.A0 p z'.d0) := (k5.cell 2).trans rfl
        have m3 : w6.cell? ⟨nb, 3, none⟩ = some (.slice z'.A1 n z'.d1) := (k5.cell 3).trans rfl
        have m4 : w6.cell? ⟨nb, 4, none⟩ = some (.slice none 0 0) := (k5.cell 4).trans rfl
        have m5 : w6.cell? ⟨nb, 5, none⟩ = some (.slice z'.A2 p z'.d2) := (k5.cell 5).trans rfl
        have m6 : w6.cell? ⟨nb, 6, none⟩ = some (.slice z'.A3 q z'.d3) := (k5.cell 6).trans rfl
        have m7 : w6.cell? ⟨nb, 7, none⟩ = some (.slice z'.A4 n z'.d4) := (k5.cell 7).trans rfl
        have m8 : w6.cell? ⟨nb, 8, none⟩ = some (.slice none 0 0) := (k5.cell 8).trans rfl
        have m9 : w6.cell? ⟨nb, 9, none⟩ = some (.slice none 0 0) := (k5.cell 9).trans rfl
        have t0 : w6.cell? ⟨w.heap.size + 1 + 1, 0, none⟩ = some (.int .i64 0) := (k8.cell 0).trans rfl
        have u0 : w6.frozen? ⟨w.heap.size + 1 + 1, 0, none⟩ = false := k8.frozen 0
        have t1 : w6.cell? ⟨w.heap.size + 1 + 1, 1, none⟩ = some (.slice none 0 0) := (k8.cell 1).trans rfl
        have u1 : w6.frozen? ⟨w.heap.size + 1 + 1, 1, none⟩ = false := k8.frozen 1
        have t2 : w6.cell? ⟨w.heap.size + 1 + 1, 2, none⟩ = some (.slice none 0 0) := (k8.cell 2).trans rfl
        have u2 : w6.frozen? ⟨w.heap.size + 1 + 1, 2, none⟩ = false := k8.frozen 2
        have t3 : w6.cell? ⟨w.heap.size + 1 + 1, 3, none⟩ = some (.slice none 0 0) := (k8.cell 3).trans rfl
        have u3 : w6.frozen? ⟨w.heap.size + 1 + 1, 3, none⟩ = false := k8.frozen 3
        have t4 : w6.cell? ⟨w.heap.size + 1 + 1, 4, none⟩ = some (.slice none 0 0) := (k8.cell 4).trans rfl
        have u4 : w6.frozen? ⟨w.heap.size + 1 + 1, 4, none⟩ = false := k8.frozen 4
        have t5 : w6.cell? ⟨w.heap.size + 1 + 1, 5, none⟩ = some (.slice none 0 0) := (k8.cell 5).trans rfl
        have u5 : w6.frozen? ⟨w.heap.size + 1 + 1, 5, none⟩ = false := k8.frozen 5
        have t6 : w6.cell? ⟨w.heap.size + 1 + 1, 6, none⟩ = some (.slice none 0 0) := (k8.cell 6).trans rfl
        have u6 : w6.frozen? ⟨w.heap.size + 1 + 1, 6, none⟩ = false := k8.frozen 6
        have t7 : w6.cell? ⟨w.heap.size + 1 + 1, 7, none⟩ = some (.slice none 0 0) := (k8.cell 7).trans rfl
        have u7 : w6.frozen? ⟨w.heap.size + 1 + 1, 7, none⟩ = false := k8.frozen 7
        have t8 : w6.cell? ⟨w.heap.size + 1 + 1, 8, none⟩ = some (.slice none 0 0) := (k8.cell 8).trans rfl
        have u8 : w6.frozen? ⟨w.heap.size + 1 + 1, 8, none⟩ = false := k8.frozen 8
        have t9 : w6.cell? ⟨w.heap.size + 1 + 1, 9, none⟩ = some (.slice none 0 0) := (k8.cell 9).trans rfl
        have u9 : w6.frozen? ⟨w.heap.size + 1 + 1, 9, none⟩ = false := k8.frozen 9
        skip))
    all_goals
      clear n0 n1 n2 n3 n4 n5 n6 n7 n8 n9 m0 m1 m2 m3 m4 m5 m6 m7 m8 m9 d0 d1 d2
      go_wp2_with fail
      have hE := mu_end (E := E) k8 hq ((HD.out.drewN 1).fr hf (fun i hi _ e => HDB.out i hi (by omega) e)) ((((Fr.of_below HBEL.out).mono (S := h.W) (fun i hi e => by omega)).drewN 1).trans hf (fun i _ e => e)) HGB.out HW.out
      refine bodyPost_ret (v := .tuple #[.agg (mkC z' p q n), .bool true]) (res9_1 rfl _ _ (w.heap.size + 1 + 1) 27 _ (0, 0) _ _ rfl rfl hE.2 Try.underlying27 rfl (by kernel_rfl)) rfl (Or.inr hE.1)
set_option maxRecDepth 100000 in
set_option maxHeartbeats 8000000 in
theorem does_upbig (w : World) (B : Nat) (h : LkH) (E : Nat → Prop) (z : LkQ) (p q n : Nat) (s : Lk) (tv x : Int) (hl : LkM w B h s) (hd : DocC w E z p q n s) {K : Nat} (O : LkOk K s) (hK : K ≤ 100000) (hE : ∀ k, E k → k < w.heap.size → ¬ h.W k) (hx1 : -9223372036854775808 ≤ x) (hx2 : x ≤ 9223372036854775807) (ht1 : -9223372036854775808 ≤ tv) (ht2 : tv ≤ 9223372036854775807) (kind : Int) (hk0 : 0 ≤ kind) (hk4 : ¬ kind ≤ 4) (hk5 : ¬ kind = 5)(i : Nat) (hn : 0 < n) (hn2 : n ≤ 8) (hix : aroundV x n = (i : Int)) (s2 : Lk) (a1 : Int) (hs2 : upV s i = (s2, a1)):
    Calls Try.prog 9 #[.pointer (some ⟨h.g, 0, none⟩), .agg (mkC z p q n), .agg #[.int .i64 kind, .int .i64 tv, .int .i64 x]] w (fun e w' => MuPost w B h E p q n s e w' ∨ MuPost w B h E p q n s2 e w') := by
  have hdw := MuW.new w kind tv x hl hd
  obtain ⟨W3, hW3⟩ : ∃ W, W = (((w.alloc (.cells (mkC z p q n) 27)).alloc (.cells #[.int .i64 kind, .int .i64 tv, .int .i64 x] 34)).alloc (.cells zeroC 27)) := ⟨_, rfl⟩
  rw [← hW3] at hdw
  have hgb := hl.box.lt
  have HDW0 := Lib.hid hdw; have HW3 := Lib.hid hW3; have HGB := Lib.hid hgb
  have htt := aroundV_lt (n := tv) (show (0 : Int) < 8 by omega)
  have har := fun W => around_any tv 8 W ht1 ht2 (by omega) (by omega)
  generalize aroundV tv 8 = t at *
  have HAR := Lib.hid har
  have hwa := lawWaits_any W3 _ z p q n s hdw.dc (SzL.of O hK) t
  have HWA := Lib.hid hwa
  have HEE := Lib.hid hE; have HO := Lib.hid O; have HK := Lib.hid hK; have HTT := Lib.hid htt
  obtain ⟨x0, x1, x2, x3, x4, x5, x6, x7, x8, x9⟩ := blk10 hdw.b5
  have d0 : W3.cell? ⟨w.heap.size + 1, 0, none⟩ = some (.int .i64 kind) := (hdw.b6.cell 0).trans rfl
  have d1 : W3.cell? ⟨w.heap.size + 1, 1, none⟩ = some (.int .i64 tv) := (hdw.b6.cell 1).trans rfl
  have d2 : W3.cell? ⟨w.heap.size + 1, 2, none⟩ = some (.int .i64 x) := (hdw.b6.cell 2).trans rfl
  have HS2 := Lib.hid hs2
  clear hs2
  clear hl hd hdw hW3 hgb har hwa hE O hK htt ht1 ht2
  go_enter Try.func9, Try.ntmps9
  go_upto_region 1 with fail
  rw [← HW3.out]
  clear HW3
  go_wp2_with fail
  refine (HAR.out _).mono ?_
  rintro e w4 ⟨rfl, rfl⟩
  clear HAR
  go_wp2_with fail
  refine (HWA.out).mono ?_
  rintro e W3 ⟨bw, rfl, hb4⟩
  have hdw4 : MuW w W3 B h E z p q n s kind tv x := HDW0.out.later hb4
  have HDW := Lib.hid hdw4
  clear HWA HDW0 x0 x1 x2 x3 x4 x5 x6 x7 x8 x9 d0 d1 d2 hb4
  obtain ⟨x0, x1, x2, x3, x4, x5, x6, x7, x8, x9⟩ := blk10 hdw4.b5
  have d0 : W3.cell? ⟨w.heap.size + 1, 0, none⟩ = some (.int .i64 kind) := (hdw4.b6.cell 0).trans rfl
  have d1 : W3.cell? ⟨w.heap.size + 1, 1, none⟩ = some (.int .i64 tv) := (hdw4.b6.cell 1).trans rfl
  have d2 : W3.cell? ⟨w.heap.size + 1, 2, none⟩ = some (.int .i64 x) := (hdw4.b6.cell 2).trans rfl
  clear hdw4
  cases bw with
  | true =>
    have hE := mu_end (E := E) HDW.out.b8 HDW.out.lk (HDW.out.dc.mono (E' := ME w E) (fun i hi _ => .inl hi)) ((Fr.of_below HDW.out.bel).mono (S := h.W) (fun i hi e => by omega)) HGB.out HDW.out.hW
    have HE := Lib.hid hE
    have t0 : W3.cell? ⟨w.heap.size + 1 + 1, 0, none⟩ = some (.int .i64 0) := (HDW.out.b8.cell 0).trans rfl
    have u0 : W3.frozen? ⟨w.heap.size + 1 + 1, 0, none⟩ = false := HDW.out.b8.frozen 0
    have t1 : W3.cell? ⟨w.heap.size + 1 + 1, 1, none⟩ = some (.slice none 0 0) := (HDW.out.b8.cell 1).trans rfl
    have u1 : W3.frozen? ⟨w.heap.size + 1 + 1, 1, none⟩ = false := HDW.out.b8.frozen 1
    have t2 : W3.cell? ⟨w.heap.size + 1 + 1, 2, none⟩ = some (.slice none 0 0) := (HDW.out.b8.cell 2).trans rfl
    have u2 : W3.frozen? ⟨w.heap.size + 1 + 1, 2, none⟩ = false := HDW.out.b8.frozen 2
    have t3 : W3.cell? ⟨w.heap.size + 1 + 1, 3, none⟩ = some (.slice none 0 0) := (HDW.out.b8.cell 3).trans rfl
    have u3 : W3.frozen? ⟨w.heap.size + 1 + 1, 3, none⟩ = false := HDW.out.b8.frozen 3
    have t4 : W3.cell? ⟨w.heap.size + 1 + 1, 4, none⟩ = some (.slice none 0 0) := (HDW.out.b8.cell 4).trans rfl
    have u4 : W3.frozen? ⟨w.heap.size + 1 + 1, 4, none⟩ = false := HDW.out.b8.frozen 4
    have t5 : W3.cell? ⟨w.heap.size + 1 + 1, 5, none⟩ = some (.slice none 0 0) := (HDW.out.b8.cell 5).trans rfl
    have u5 : W3.frozen? ⟨w.heap.size + 1 + 1, 5, none⟩ = false := HDW.out.b8.frozen 5
    have t6 : W3.cell? ⟨w.heap.size + 1 + 1, 6, none⟩ = some (.slice none 0 0) := (HDW.out.b8.cell 6).trans rfl
    have u6 : W3.frozen? ⟨w.heap.size + 1 + 1, 6, none⟩ = false := HDW.out.b8.frozen 6
    have t7 : W3.cell? ⟨w.heap.size + 1 + 1, 7, none⟩ = some (.slice none 0 0) := (HDW.out.b8.cell 7).trans rfl
    have u7 : W3.frozen? ⟨w.heap.size + 1 + 1, 7, none⟩ = false := HDW.out.b8.frozen 7
    have t8 : W3.cell? ⟨w.heap.size + 1 + 1, 8, none⟩ = some (.slice none 0 0) := (HDW.out.b8.cell 8).trans rfl
    have u8 : W3.frozen? ⟨w.heap.size + 1 + 1, 8, none⟩ = false := HDW.out.b8.frozen 8
    have t9 : W3.cell? ⟨w.heap.size + 1 + 1, 9, none⟩ = some (.slice none 0 0) := (HDW.out.b8.cell 9).trans rfl
    have u9 : W3.frozen? ⟨w.heap.size + 1 + 1, 9, none⟩ = false := HDW.out.b8.frozen 9
    clear hE HDW HGB d1
    go_wp2_with fail
    refine bodyPost_ret (v := .tuple #[.agg (mkC z p q n), .bool true]) (res9_1 rfl _ _ (w.heap.size + 1 + 1) 27 _ (0, 0) _ _ rfl rfl HE.out.2 Try.underlying27 rfl (by kernel_rfl)) rfl ?_
    first | exact Or.inl HE.out.1 | exact HE.out.1
  | false =>
    have hsm := aroundV_lt (n := x) (show (0 : Int) < (n : Int) by omega)
    rw [hix] at hsm
    have hi : i < n := by omega
    have hars := fun W => around_any x n W hx1 hx2 (by omega) (by omega)
    rw [hix] at hars
    have HAS := Lib.hid hars
    have hio : i < s.cnt.length := by have := HDW.out.dc.ln; omega
    have hcn := HO.out.cnt _ (gn_mem hio)
    have ht0 : 0 ≤ t := HTT.out.1
    have hE := HEE.out
    have hK := HK.out
    have O := HO.out
    have hc : ∀ W, LkM W B { h with X := fun k => h.X k ∨ k = w.heap.size + 1 + 1 } s → Calls Try.prog 19 #[.pointer (some ⟨h.g, 0, none⟩), .int .i64 (i : Int)] W (fun e w' => e = .returned (.int .i64 (upV s i).2) ∧ LkM w' B { h with X := fun k => h.X k ∨ k = w.heap.size + 1 + 1 } ((upV s i).1) ∧ Fr h.W W w') := fun W hl => up_any hl O (by omega) i hio
    have hdb : ∀ k, (ME w E) k → k < w.heap.size + 1 + 1 + 1 ∨ w.heap.size + 1 + 1 + 1 ≤ k → ¬ h.W k := fun k hk _ e => by
      have := HDW.out.hW k e
      rcases hk with hk | hk
      · exact hE k hk.1 hk.2 e
      · omega
    have HC := Lib.hid hc; have HDB := Lib.hid hdb
    clear hc hdb
    have hdoc := docUp W3 _ z p q n s HDW.out.dc (SzL.of O hK) i hi hcn.1 (by omega)
    rw [HS2.out] at hdoc HC
    have HDC := Lib.hid hdoc
    clear hdoc hcn hio hsm hars ht0 hE O HEE HO HTT
    have hn0 : (0 : Int) < (n : Int) := by omega
    have hnz : ¬ (n : Int) = 0 := by omega
    go_wp2_with fail
    refine (HAS.out _).mono ?_
    rintro e w4 ⟨rfl, rfl⟩
    clear HAS
    go_wp2_with fail
    refine (HDC.out).mono ?_
    rintro e w4 ⟨z', rfl, hd4, hb⟩
    have zb := hb.size
    obtain ⟨nb, hnb⟩ : ∃ b, b = w4.heap.size := ⟨_, rfl⟩
    have hsz := HDW.out.sz
    have hb5 := Blk.new w4 27 (mkC z' p q n)
    have hb6 := (HDW.out.b6.below hb (by omega)).alloc (.cells (mkC z' p q n) 27)
    have hb8 := (HDW.out.b8.below hb (by omega)).alloc (.cells (mkC z' p q n) 27)
    have hl4 := (HDW.out.lk.below hb (Nat.le_refl _)).alloc (.cells (mkC z' p q n) 27)
    have hd5 : DocC (w4.alloc (.cells (mkC z' p q n) 27)) (ME w E) z' p q n s2  := (hd4.mono (E' := ME w E) (fun k hk _ => by rcases hk with hk | hk; exact .inl hk.1; exact .inr (by omega))).below ((Below.refl _ w4).alloc (Nat.le_refl _) _) (Nat.le_refl _)
    have hbel := (HDW.out.bel.trans (hb.mono (by omega))).alloc (by omega) (.cells (mkC z' p q n) 27)
    obtain ⟨W5, hW5⟩ : ∃ W, W = w4.alloc (.cells (mkC z' p q n) 27) := ⟨_, rfl⟩
    rw [← hW5] at hb5 hb6 hb8 hl4 hd5 hbel
    rw [← hnb] at hb5
    have H5 := Lib.hid hb5; have H6 := Lib.hid hb6; have H8 := Lib.hid hb8; have HL := Lib.hid hl4; have HD := Lib.hid hd5; have HBEL := Lib.hid hbel; have HW5 := Lib.hid hW5; have HNB := Lib.hid hnb; have HW := Lib.hid HDW.out.hW
    have zn : w.heap.size + 1 + 1 < nb := by omega
    have zn5 := hb5.lt
    clear x0 x1 x2 x3 x4 x5 x6 x7 x8 x9 d0 d1 d2 hb5 hb6 hb8 hl4 hd4 hd5 hbel hb hW5 hnb hsz HDW zb
    go_upto_region 15 with fail
    rw [← HW5.out, ← HNB.out]
    clear HW5 HNB
    have n0 : W5.cell? ⟨nb, 0, none⟩ = some (.int .i64 0) := (H5.out.cell 0).trans rfl
    have n1 : W5.cell? ⟨nb, 1, none⟩ = some (.slice none 0 0) := (H5.out.cell 1).trans rfl
    have n2 : W5.cell? ⟨nb, 2, none⟩ = some (.slice z'.A0 p z'.d0) := (H5.out.cell 2).trans rfl
    have n3 : W5.cell? ⟨nb, 3, none⟩ = some (.slice z'.A1 n z'.d1) := (H5.out.cell 3).trans rfl
    have n4 : W5.cell? ⟨nb, 4, none⟩ = some (.slice none 0 0) := (H5.out.cell 4).trans rfl
    have n5 : W5.cell? ⟨nb, 5, none⟩ = some (.slice z'.A2 p z'.d2) := (H5.out.cell 5).trans rfl
    have n6 : W5.cell? ⟨nb, 6, none⟩ = some (.slice z'.A3 q z'.d3) := (H5.out.cell 6).trans rfl
    have n7 : W5.cell? ⟨nb, 7, none⟩ = some (.slice z'.A4 n z'.d4) := (H5.out.cell 7).trans rfl
    have n8 : W5.cell? ⟨nb, 8, none⟩ = some (.slice none 0 0) := (H5.out.cell 8).trans rfl
    have n9 : W5.cell? ⟨nb, 9, none⟩ = some (.slice none 0 0) := (H5.out.cell 9).trans rfl
    have d0 : W5.cell? ⟨w.heap.size + 1, 0, none⟩ = some (.int .i64 kind) := (H6.out.cell 0).trans rfl
    have d1 : W5.cell? ⟨w.heap.size + 1, 1, none⟩ = some (.int .i64 tv) := (H6.out.cell 1).trans rfl
    have d2 : W5.cell? ⟨w.heap.size + 1, 2, none⟩ = some (.int .i64 x) := (H6.out.cell 2).trans rfl
    have hks : ∀ W : World, (W.cell? ⟨nb, 0, none⟩ = some (.int .i64 0) ∧ W.cell? ⟨nb, 1, none⟩ = some (.slice none 0 0) ∧ W.cell? ⟨nb, 2, none⟩ = some (.slice z'.A0 p z'.d0) ∧ W.cell? ⟨nb, 3, none⟩ = some (.slice z'.A1 n z'.d1) ∧ W.cell? ⟨nb, 4, none⟩ = some (.slice none 0 0) ∧ W.cell? ⟨nb, 5, none⟩ = some (.slice z'.A2 p z'.d2) ∧ W.cell? ⟨nb, 6, none⟩ = some (.slice z'.A3 q z'.d3) ∧ W.cell? ⟨nb, 7, none⟩ = some (.slice z'.A4 n z'.d4) ∧ W.cell? ⟨nb, 8, none⟩ = some (.slice none 0 0) ∧ W.cell? ⟨nb, 9, none⟩ = some (.slice none 0 0)) → ((((((((((W.setCell ⟨w.heap.size + 1 + 1, 0, none⟩ (.int .i64 0)).setCell ⟨w.heap.size + 1 + 1, 1, none⟩ (.slice none 0 0)).setCell ⟨w.heap.size + 1 + 1, 2, none⟩ (.slice z'.A0 p z'.d0)).setCell ⟨w.heap.size + 1 + 1, 3, none⟩ (.slice z'.A1 n z'.d1)).setCell ⟨w.heap.size + 1 + 1, 4, none⟩ (.slice none 0 0)).setCell ⟨w.heap.size + 1 + 1, 5, none⟩ (.slice z'.A2 p z'.d2)).setCell ⟨w.heap.size + 1 + 1, 6, none⟩ (.slice z'.A3 q z'.d3)).setCell ⟨w.heap.size + 1 + 1, 7, none⟩ (.slice z'.A4 n z'.d4)).setCell ⟨w.heap.size + 1 + 1, 8, none⟩ (.slice none 0 0)).setCell ⟨w.heap.size + 1 + 1, 9, none⟩ (.slice none 0 0)).cell? ⟨nb, 0, none⟩ = some (.int .i64 0) ∧ ((((((((((W.setCell ⟨w.heap.size + 1 + 1, 0, none⟩ (.int .i64 0)).setCell ⟨w.heap.size + 1 + 1, 1, none⟩ (.slice none 0 0)).setCell ⟨w.heap.size + 1 + 1, 2, none⟩ (.slice z'.A0 p z'.d0)).setCell ⟨w.heap.size + 1 + 1, 3, none⟩ (.slice z'.A1 n z'.d1)).setCell ⟨w.heap.size + 1 + 1, 4, none⟩ (.slice none 0 0)).setCell ⟨w.heap.size + 1 + 1, 5, none⟩ (.slice z'.A2 p z'.d2)).setCell ⟨w.heap.size + 1 + 1, 6, none⟩ (.slice z'.A3 q z'.d3)).setCell ⟨w.heap.size + 1 + 1, 7, none⟩ (.slice z'.A4 n z'.d4)).setCell ⟨w.heap.size + 1 + 1, 8, none⟩ (.slice none 0 0)).setCell ⟨w.heap.size + 1 + 1, 9, none⟩ (.slice none 0 0)).cell? ⟨nb, 1, none⟩ = some (.slice none 0 0) ∧ ((((((((((W.setCell ⟨w.heap.size + 1 + 1, 0, none⟩ (.int .i64 0)).setCell ⟨w.heap.size + 1 + 1, 1, none⟩ (.slice none 0 0)).setCell ⟨w.heap.size + 1 + 1, 2, none⟩ (.slice z'.A0 p z'.d0)).setCell ⟨w.heap.size + 1 + 1, 3, none⟩ (.slice z'.A1 n z'.d1)).setCell ⟨w.heap.size + 1 + 1, 4, none⟩ (.slice none 0 0)).setCell ⟨w.heap.size + 1 + 1, 5, none⟩ (.slice z'.A2 p z'.d2)).setCell ⟨w.heap.size + 1 + 1, 6, none⟩ (.slice z'.A3 q z'.d3)).setCell ⟨w.heap.size + 1 + 1, 7, none⟩ (.slice z'.A4 n z'.d4)).setCell ⟨w.heap.size + 1 + 1, 8, none⟩ (.slice none 0 0)).setCell ⟨w.heap.size + 1 + 1, 9, none⟩ (.slice none 0 0)).cell? ⟨nb, 2, none⟩ = some (.slice z'.A0 p z'.d0) ∧ ((((((((((W.setCell ⟨w.heap.size + 1 + 1, 0, none⟩ (.int .i64 0)).setCell ⟨w.heap.size + 1 + 1, 1, none⟩ (.slice none 0 0)).setCell ⟨w.heap.size + 1 + 1, 2, none⟩ (.slice z'.A0 p z'.d0)).setCell ⟨w.heap.size + 1 + 1, 3, none⟩ (.slice z'.A1 n z'.d1)).setCell ⟨w.heap.size + 1 + 1, 4, none⟩ (.slice none 0 0)).setCell ⟨w.heap.size + 1 + 1, 5, none⟩ (.slice z'.A2 p z'.d2)).setCell ⟨w.heap.size + 1 + 1, 6, none⟩ (.slice z'.A3 q z'.d3)).setCell ⟨w.heap.size + 1 + 1, 7, none⟩ (.slice z'.A4 n z'.d4)).setCell ⟨w.heap.size + 1 + 1, 8, none⟩ (.slice none 0 0)).setCell ⟨w.heap.size + 1 + 1, 9, none⟩ (.slice none 0 0)).cell? ⟨nb, 3, none⟩ = some (.slice z'.A1 n z'.d1) ∧ ((((((((((W.setCell ⟨w.heap.size + 1 + 1, 0, none⟩ (.int .i64 0)).setCell ⟨w.heap.size + 1 + 1, 1, none⟩ (.slice none 0 0)).setCell ⟨w.heap.size + 1 + 1, 2, none⟩ (.slice z'.A0 p z'.d0)).setCell ⟨w.heap.size + 1 + 1, 3, none⟩ (.slice z'.A1 n z'.d1)).setCell ⟨w.heap.size + 1 + 1, 4, none⟩ (.slice none 0 0)).setCell ⟨w.heap.size + 1 + 1, 5, none⟩ (.slice z'.A2 p z'.d2)).setCell ⟨w.heap.size + 1 + 1, 6, none⟩ (.slice z'.A3 q z'.d3)).setCell ⟨w.heap.size + 1 + 1, 7, none⟩ (.slice z'.A4 n z'.d4)).setCell ⟨w.heap.size + 1 + 1, 8, none⟩ (.slice none 0 0)).setCell ⟨w.heap.size + 1 + 1, 9, none⟩ (.slice none 0 0)).cell? ⟨nb, 4, none⟩ = some (.slice none 0 0) ∧ ((((((((((W.setCell ⟨w.heap.size + 1 + 1, 0, none⟩ (.int .i64 0)).setCell ⟨w.heap.size + 1 + 1, 1, none⟩ (.slice none 0 0)).setCell ⟨w.heap.size + 1 + 1, 2, none⟩ (.slice z'.A0 p z'.d0)).setCell ⟨w.heap.size + 1 + 1, 3, none⟩ (.slice z'.A1 n z'.d1)).setCell ⟨w.heap.size + 1 + 1, 4, none⟩ (.slice none 0 0)).setCell ⟨w.heap.size + 1 + 1, 5, none⟩ (.slice z'.A2 p z'.d2)).setCell ⟨w.heap.size + 1 + 1, 6, none⟩ (.slice z'.A3 q z'.d3)).setCell ⟨w.heap.size + 1 + 1, 7, none⟩ (.slice z'.A4 n z'.d4)).setCell ⟨w.heap.size + 1 + 1, 8, none⟩ (.slice none 0 0)).setCell ⟨w.heap.size + 1 + 1, 9, none⟩ (.slice none 0 0)).cell? ⟨nb, 5, none⟩ = some (.slice z'.A2 p z'.d2) ∧ ((((((((((W.setCell ⟨w.heap.size + 1 + 1, 0, none⟩ (.int .i64 0)).setCell ⟨w.heap.size + 1 + 1, 1, none⟩ (.slice none 0 0)).setCell ⟨w.heap.size + 1 + 1, 2, none⟩ (.slice z'.A0 p z'.d0)).setCell ⟨w.heap.size + 1 + 1, 3, none⟩ (.slice z'.A1 n z'.d1)).setCell ⟨w.heap.size + 1 + 1, 4, none⟩ (.slice none 0 0)).setCell ⟨w.heap.size + 1 + 1, 5, none⟩ (.slice z'.A2 p z'.d2)).setCell ⟨w.heap.size + 1 + 1, 6, none⟩ (.slice z'.A3 q z'.d3)).setCell ⟨w.heap.size + 1 + 1, 7, none⟩ (.slice z'.A4 n z'.d4)).setCell ⟨w.heap.size + 1 + 1, 8, none⟩ (.slice none 0 0)).setCell ⟨w.heap.size + 1 + 1, 9, none⟩ (.slice none 0 0)).cell? ⟨nb, 6, none⟩ = some (.slice z'.A3 q z'.d3) ∧ ((((((((((W.setCell ⟨w.heap.size + 1 + 1, 0, none⟩ (.int .i64 0)).setCell ⟨w.heap.size + 1 + 1, 1, none⟩ (.slice none 0 0)).setCell ⟨w.heap.size + 1 + 1, 2, none⟩ (.slice z'.A0 p z'.d0)).setCell ⟨w.heap.size + 1 + 1, 3, none⟩ (.slice z'.A1 n z'.d1)).setCell ⟨w.heap.size + 1 + 1, 4, none⟩ (.slice none 0 0)).setCell ⟨w.heap.size + 1 + 1, 5, none⟩ (.slice z'.A2 p z'.d2)).setCell ⟨w.heap.size + 1 + 1, 6, none⟩ (.slice z'.A3 q z'.d3)).setCell ⟨w.heap.size + 1 + 1, 7, none⟩ (.slice z'.A4 n z'.d4)).setCell ⟨w.heap.size + 1 + 1, 8, none⟩ (.slice none 0 0)).setCell ⟨w.heap.size + 1 + 1, 9, none⟩ (.slice none 0 0)).cell? ⟨nb, 7, none⟩ = some (.slice z'.A4 n z'.d4) ∧ ((((((((((W.setCell ⟨w.heap.size + 1 + 1, 0, none⟩ (.int .i64 0)).setCell ⟨w.heap.size + 1 + 1, 1, none⟩ (.slice none 0 0)).setCell ⟨w.heap.size + 1 + 1, 2, none⟩ (.slice z'.A0 p z'.d0)).setCell ⟨w.heap.size + 1 + 1, 3, none⟩ (.slice z'.A1 n z'.d1)).setCell ⟨w.heap.size + 1 + 1, 4, none⟩ (.slice none 0 0)).setCell ⟨w.heap.size + 1 + 1, 5, none⟩ (.slice z'.A2 p z'.d2)).setCell ⟨w.heap.size + 1 + 1, 6, none⟩ (.slice z'.A3 q z'.d3)).setCell ⟨w.heap.size + 1 + 1, 7, none⟩ (.slice z'.A4 n z'.d4)).setCell ⟨w.heap.size + 1 + 1, 8, none⟩ (.slice none 0 0)).setCell ⟨w.heap.size + 1 + 1, 9, none⟩ (.slice none 0 0)).cell? ⟨nb, 8, none⟩ = some (.slice none 0 0) ∧ ((((((((((W.setCell ⟨w.heap.size + 1 + 1, 0, none⟩ (.int .i64 0)).setCell ⟨w.heap.size + 1 + 1, 1, none⟩ (.slice none 0 0)).setCell ⟨w.heap.size + 1 + 1, 2, none⟩ (.slice z'.A0 p z'.d0)).setCell ⟨w.heap.size + 1 + 1, 3, none⟩ (.slice z'.A1 n z'.d1)).setCell ⟨w.heap.size + 1 + 1, 4, none⟩ (.slice none 0 0)).setCell ⟨w.heap.size + 1 + 1, 5, none⟩ (.slice z'.A2 p z'.d2)).setCell ⟨w.heap.size + 1 + 1, 6, none⟩ (.slice z'.A3 q z'.d3)).setCell ⟨w.heap.size + 1 + 1, 7, none⟩ (.slice z'.A4 n z'.d4)).setCell ⟨w.heap.size + 1 + 1, 8, none⟩ (.slice none 0 0)).setCell ⟨w.heap.size + 1 + 1, 9, none⟩ (.slice none 0 0)).cell? ⟨nb, 9, none⟩ = some (.slice none 0 0) := fun W h9 => cells10_keep W (w.heap.size + 1 + 1) nb (by omega) _ _ _ _ _ _ _ _ _ _ _ _ _ _ _ _ _ _ _ _ h9
    have KS := Lib.hid hks
    clear hks
    have hc5 := HC.out W5.drew (HL.out.drewN 1)
    have HC5 := Lib.hid hc5
    clear hc5 HC
    go_region_held3 (fun w' => w'.cell? ⟨nb, 0, none⟩ = some (.int .i64 0) ∧ w'.cell? ⟨nb, 1, none⟩ = some (.slice none 0 0) ∧ w'.cell? ⟨nb, 2, none⟩ = some (.slice z'.A0 p z'.d0) ∧ w'.cell? ⟨nb, 3, none⟩ = some (.slice z'.A1 n z'.d1) ∧ w'.cell? ⟨nb, 4, none⟩ = some (.slice none 0 0) ∧ w'.cell? ⟨nb, 5, none⟩ = some (.slice z'.A2 p z'.d2) ∧ w'.cell? ⟨nb, 6, none⟩ = some (.slice z'.A3 q z'.d3) ∧ w'.cell? ⟨nb, 7, none⟩ = some (.slice z'.A4 n z'.d4) ∧ w'.cell? ⟨nb, 8, none⟩ = some (.slice none 0 0) ∧ w'.cell? ⟨nb, 9, none⟩ = some (.slice none 0 0))
      (first | with_reducible exact ⟨n0, n1, n2, n3, n4, n5, n6, n7, n8, n9⟩ | with_reducible exact ⟨m0, m1, m2, m3, m4, m5, m6, m7, m8, m9⟩ | with_reducible exact KS.out _ ⟨m0, m1, m2, m3, m4, m5, m6, m7, m8, m9⟩ | go_keep)
      ((go_simp; with_reducible refine (HC5.out).mono ?_
        rintro e w6 ⟨rfl, hq, hf⟩
        have k5 := hf.blk H5.out (fun e => by have := HW.out _ e; omega)
        have k8 := hf.blk H8.out (fun e => by have := HW.out _ e; omega)
        have m0 : w6.cell? ⟨nb, 0, none⟩ = some (.int .i64 0) := (k5.cell 0).trans rfl
        have m1 : w6.cell? ⟨nb, 1, none⟩ = some (.slice none 0 0) := (k5.cell 1).trans rfl
        have m2 : w6.cell? ⟨nb, 2, none⟩ = some (.slice z'.A0 p z'.d0) := (k5.cell 2).trans rfl
        have m3 : w6.cell? ⟨nb, 3, none⟩ = some (.slice z'.A1 n z'.d1) := (k5.cell 3).trans rfl
        have m4 : w6.cell? ⟨nb, 4, none⟩ = some (.slice none 0 0) := (k5.cell 4).trans rfl
        have m5 : w6.cell? ⟨nb, 5, none⟩ = some (.slice z'.A2 p z'.d2) := (k5.cell 5).trans rfl
        have m6 : w6.cell? ⟨nb, 6, none⟩ = some (.slice z'.A3 q z'.d3) := (k5.cell 6).trans rfl
        have m7 : w6.cell? ⟨nb, 7, none⟩ = some (.slice z'.A4 n z'.d4) := (k5.cell 7).trans rfl
        have m8 : w6.cell? ⟨nb, 8, none⟩ = some (.slice none 0 0) := (k5.cell 8).trans rfl
        have m9 : w6.cell? ⟨nb, 9, none⟩ = some (.slice none 0 0) := (k5.cell 9).trans rfl
        have t0 : w6.cell? ⟨w.heap.size + 1 + 1, 0, none⟩ = some (.int .i64 0) := (k8.cell 0).trans rfl
        have u0 : w6.frozen? ⟨w.heap.size + 1 + 1, 0, none⟩ = false := k8.frozen 0
        have t1 : w6.cell? ⟨w.heap.size + 1 + 1, 1, none⟩ = some (.slice none 0 0) := (k8.cell 1).trans rfl
        have u1 : w6.frozen? ⟨w.heap.size + 1 + 1, 1, none⟩ = false := k8.frozen 1
        have t2 : w6.cell? ⟨w.heap.size + 1 + 1, 2, none⟩ = some (.slice none 0 0) := (k8.cell 2).trans rfl
        have u2 : w6.frozen? ⟨w.heap.size + 1 + 1, 2, none⟩ = false := k8.frozen 2
        have t3 : w6.cell? ⟨w.heap.size + 1 + 1, 3, none⟩ = some (.slice none 0 0) := (k8.cell 3).trans rfl
        have u3 : w6.frozen? ⟨w.heap.size + 1 + 1, 3, none⟩ = false := k8.frozen 3
        have t4 : w6.cell? ⟨w.heap.size + 1 + 1, 4, none⟩ = some (.slice none 0 0) := (k8.cell 4).trans rfl
        have u4 : w6.frozen? ⟨w.heap.size + 1 + 1, 4, none⟩ = false := k8.frozen 4
        have t5 : w6.cell? ⟨w.heap.size + 1 + 1, 5, none⟩ = some (.slice none 0 0) := (k8.cell 5).trans rfl
        have u5 : w6.frozen? ⟨w.heap.size + 1 + 1, 5, none⟩ = false := k8.frozen 5
        have t6 : w6.cell? ⟨w.heap.size + 1 + 1, 6, none⟩ = some (.slice none 0 0) := (k8.cell 6).trans rfl
        have u6 : w6.frozen? ⟨w.heap.size + 1 + 1, 6, none⟩ = false := k8.frozen 6
        have t7 : w6.cell? ⟨w.heap.size + 1 + 1, 7, none⟩ = some (.slice none 0 0) := (k8.cell 7).trans rfl
        have u7 : w6.frozen? ⟨w.heap.size + 1 + 1, 7, none⟩ = false := k8.frozen 7
        have t8 : w6.cell? ⟨w.heap.size + 1 + 1, 8, none⟩ = some (.slice none 0 0) := (k8.cell 8).trans rfl
        have u8 : w6.frozen? ⟨w.heap.size + 1 + 1, 8, none⟩ = false := k8.frozen 8
        have t9 : w6.cell? ⟨w.heap.size + 1 + 1, 9, none⟩ = some (.slice none 0 0) := (k8.cell 9).trans rfl
        have u9 : w6.frozen? ⟨w.heap.size + 1 + 1, 9, none⟩ = false := k8.frozen 9
        skip))
    all_goals
      clear n0 n1 n2 n3 n4 n5 n6 n7 n8 n9 m0 m1 m2 m3 m4 m5 m6 m7 m8 m9 d0 d1 d2
      go_wp2_with fail
      have hE := mu_end (E := E) k8 hq ((HD.out.drewN 1).fr hf (fun i hi _ e => HDB.out i hi (by omega) e)) ((((Fr.of_below HBEL.out).mono (S := h.W) (fun i hi e => by omega)).drewN 1).trans hf (fun i _ e => e)) HGB.out HW.out
      refine bodyPost_ret (v := .tuple #[.agg (mkC z' p q n), .bool true]) (res9_1 rfl _ _ (w.heap.size + 1 + 1) 27 _ (0, 0) _ _ rfl rfl hE.2 Try.underlying27 rfl (by kernel_rfl)) rfl (Or.inr hE.1)
end Go.Proofs.Ytikelkfinjcgaaa
