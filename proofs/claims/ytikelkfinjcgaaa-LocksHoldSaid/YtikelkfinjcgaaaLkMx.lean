
/-
  The law's mutexes, of both: where no condition is; all of them.
-/
import Derived.Test.YtikelkfinjcgaaaLkMw
set_option linter.unusedVariables false
set_option linter.unusedSimpArgs false
namespace Go.Proofs.Ytikelkfinjcgaaa
open Go.RowKit Plain

set_option maxRecDepth 100000 in
set_option maxHeartbeats 8000000 in
theorem mutexes_none2 (w : World) (B : Nat) (h : LkH) (E : Nat → Prop) (z : LkQ) (p n : Nat) (s : Lk) (tv x t : Int) (hl : LkM w B h s) (hd : DocC w E z p 0 n s) {K : Nat} (O : LkOk K s) (hK : K ≤ 100000) (hE : ∀ k, E k → k < w.heap.size → ¬ h.W k) (hx1 : -9223372036854775808 ≤ x) (hx2 : x ≤ 9223372036854775807) (ht : 0 ≤ t) (ht2 : t ≤ 1000000) (hp : 0 < p) (hp2 : p ≤ 8) (m : Nat) (hmx : aroundV x p = (m : Int)) :
    Calls Try.prog 25 #[.pointer (some ⟨h.g, 0, none⟩), .agg (mkC z p 0 n), .agg #[.int .i64 2, .int .i64 tv, .int .i64 x], .int .i64 t] w (MuPost w B h E p 0 n s) := by
  have hdw := MuW.new w 2 tv x hl hd
  obtain ⟨W3, hW3⟩ : ∃ W, W = (((w.alloc (.cells (mkC z p 0 n) 27)).alloc (.cells #[.int .i64 2, .int .i64 tv, .int .i64 x] 34)).alloc (.cells zeroC 27)) := ⟨_, rfl⟩
  rw [← hW3] at hdw
  have hgb := hl.box.lt
  have hlo := hd.lo; have hll := hd.ll; have hlw := hd.lw
  have HDW := Lib.hid hdw; have HW3 := Lib.hid hW3; have HGB := Lib.hid hgb
  have hp0 : (0 : Int) < (p : Int) := by omega
  have hmm := aroundV_lt (n := x) hp0
  rw [hmx] at hmm
  have hm : m < p := by omega
  have har := fun W => around_any x p W hx1 hx2 hp0 (by omega)
  rw [hmx] at har
  have HAR := Lib.hid har
  obtain ⟨x0, x1, x2, x3, x4, x5, x6, x7, x8, x9⟩ := blk10 hdw.b5
  have d0 : W3.cell? ⟨w.heap.size + 1, 0, none⟩ = some (.int .i64 2) := (hdw.b6.cell 0).trans rfl
  have d1 : W3.cell? ⟨w.heap.size + 1, 1, none⟩ = some (.int .i64 tv) := (hdw.b6.cell 1).trans rfl
  have d2 : W3.cell? ⟨w.heap.size + 1, 2, none⟩ = some (.int .i64 x) := (hdw.b6.cell 2).trans rfl
  clear hl hd hdw hW3 hgb hmm har hlo hll hlw
  go_enter Try.func25, Try.ntmps25
  go_upto_region 1 with fail
  rw [← HW3.out]
  clear HW3
  go_wp2_with fail
  refine (HAR.out _).mono ?_
  rintro e w4 ⟨rfl, rfl⟩
  clear HAR
  have hE := mu_end (E := E) HDW.out.b8 HDW.out.lk (HDW.out.dc.mono (E' := ME w E) (fun i hi _ => .inl hi)) ((Fr.of_below HDW.out.bel).mono (S := h.W) (fun i hi e => by omega)) HGB.out HDW.out.hW
  have HE := Lib.hid hE
  have t0 : W3.cell? ⟨w.heap.size + 1 + 1, 0, none⟩ = some (.int .i64 0) := (HDW.out.b8.cell 0).trans rfl
  have u0 : W3.frozen? ⟨w.heap.size + 1 + 1, 0, none⟩ = false := HDW.out.b8.frozen 0
  have t1 : W3.cell? ⟨w.heap.size + 1 + 1, 1, none⟩ = some (.slice none 0 0) := (HDW.out.b8.cell 1).trans rfl
  have u1 : W3.frozen? ⟨w.heap.size + 1 + 1, 1, none⟩ = false := HDW.out.b8.frozen 1
  have t2 : W3.cell? ⟨w.heap.size + 1 + 1, 2, none⟩ = some (.slice none 0 0) := (HDW.out.b8.cell 2).trans rfl
  have u2 : W3.frozen? ⟨w.heap.size + 1 + 1, 2, none⟩ = false := HDW.out.b8.frozen 2
  have t3 : W3.cell? ⟨w.heap.size + 1 + 1, 3, none⟩ = some (.slice none 0 0) := (HDW.out.b8.cell 3).trans rfl
  have u3 : W3.frozen? ⟨w.heap.size + 1 + 1, 3, none⟩ = false := HDW.out.b8.frozen 3
  have t4 : W3.cell? ⟨w.heap.size + 1 + 1, 4, none⟩ = some (.slice none 0 0) := (HDW.out.b8.cell 4).trans rfl
  have u4 : W3.frozen? ⟨w.heap.size + 1 + 1, 4, none⟩ = false := HDW.out.b8.frozen 4
  have t5 : W3.cell? ⟨w.heap.size + 1 + 1, 5, none⟩ = some (.slice none 0 0) := (HDW.out.b8.cell 5).trans rfl
  have u5 : W3.frozen? ⟨w.heap.size + 1 + 1, 5, none⟩ = false := HDW.out.b8.frozen 5
  have t6 : W3.cell? ⟨w.heap.size + 1 + 1, 6, none⟩ = some (.slice none 0 0) := (HDW.out.b8.cell 6).trans rfl
  have u6 : W3.frozen? ⟨w.heap.size + 1 + 1, 6, none⟩ = false := HDW.out.b8.frozen 6
  have t7 : W3.cell? ⟨w.heap.size + 1 + 1, 7, none⟩ = some (.slice none 0 0) := (HDW.out.b8.cell 7).trans rfl
  have u7 : W3.frozen? ⟨w.heap.size + 1 + 1, 7, none⟩ = false := HDW.out.b8.frozen 7
  have t8 : W3.cell? ⟨w.heap.size + 1 + 1, 8, none⟩ = some (.slice none 0 0) := (HDW.out.b8.cell 8).trans rfl
  have u8 : W3.frozen? ⟨w.heap.size + 1 + 1, 8, none⟩ = false := HDW.out.b8.frozen 8
  have t9 : W3.cell? ⟨w.heap.size + 1 + 1, 9, none⟩ = some (.slice none 0 0) := (HDW.out.b8.cell 9).trans rfl
  have u9 : W3.frozen? ⟨w.heap.size + 1 + 1, 9, none⟩ = false := HDW.out.b8.frozen 9
  clear hE HDW d1 O hK HGB
  go_wp2_with fail
  refine bodyPost_ret (v := .tuple #[.agg (mkC z p 0 n), .bool true]) (res9_1 rfl _ _ (w.heap.size + 1 + 1) 27 _ (0, 0) _ _ rfl rfl HE.out.2 Try.underlying27 rfl (by kernel_rfl)) rfl HE.out.1
set_option maxRecDepth 100000 in
set_option maxHeartbeats 8000000 in
theorem mutexes_none3 (w : World) (B : Nat) (h : LkH) (E : Nat → Prop) (z : LkQ) (p n : Nat) (s : Lk) (tv x t : Int) (hl : LkM w B h s) (hd : DocC w E z p 0 n s) {K : Nat} (O : LkOk K s) (hK : K ≤ 100000) (hE : ∀ k, E k → k < w.heap.size → ¬ h.W k) (hx1 : -9223372036854775808 ≤ x) (hx2 : x ≤ 9223372036854775807) (ht : 0 ≤ t) (ht2 : t ≤ 1000000) (hp : 0 < p) (hp2 : p ≤ 8) (m : Nat) (hmx : aroundV x p = (m : Int)) :
    Calls Try.prog 25 #[.pointer (some ⟨h.g, 0, none⟩), .agg (mkC z p 0 n), .agg #[.int .i64 3, .int .i64 tv, .int .i64 x], .int .i64 t] w (MuPost w B h E p 0 n s) := by
  have hdw := MuW.new w 3 tv x hl hd
  obtain ⟨W3, hW3⟩ : ∃ W, W = (((w.alloc (.cells (mkC z p 0 n) 27)).alloc (.cells #[.int .i64 3, .int .i64 tv, .int .i64 x] 34)).alloc (.cells zeroC 27)) := ⟨_, rfl⟩
  rw [← hW3] at hdw
  have hgb := hl.box.lt
  have hlo := hd.lo; have hll := hd.ll; have hlw := hd.lw
  have HDW := Lib.hid hdw; have HW3 := Lib.hid hW3; have HGB := Lib.hid hgb
  have hp0 : (0 : Int) < (p : Int) := by omega
  have hmm := aroundV_lt (n := x) hp0
  rw [hmx] at hmm
  have hm : m < p := by omega
  have har := fun W => around_any x p W hx1 hx2 hp0 (by omega)
  rw [hmx] at har
  have HAR := Lib.hid har
  obtain ⟨x0, x1, x2, x3, x4, x5, x6, x7, x8, x9⟩ := blk10 hdw.b5
  have d0 : W3.cell? ⟨w.heap.size + 1, 0, none⟩ = some (.int .i64 3) := (hdw.b6.cell 0).trans rfl
  have d1 : W3.cell? ⟨w.heap.size + 1, 1, none⟩ = some (.int .i64 tv) := (hdw.b6.cell 1).trans rfl
  have d2 : W3.cell? ⟨w.heap.size + 1, 2, none⟩ = some (.int .i64 x) := (hdw.b6.cell 2).trans rfl
  clear hl hd hdw hW3 hgb hmm har hlo hll hlw
  go_enter Try.func25, Try.ntmps25
  go_upto_region 1 with fail
  rw [← HW3.out]
  clear HW3
  go_wp2_with fail
  refine (HAR.out _).mono ?_
  rintro e w4 ⟨rfl, rfl⟩
  clear HAR
  have hE := mu_end (E := E) HDW.out.b8 HDW.out.lk (HDW.out.dc.mono (E' := ME w E) (fun i hi _ => .inl hi)) ((Fr.of_below HDW.out.bel).mono (S := h.W) (fun i hi e => by omega)) HGB.out HDW.out.hW
  have HE := Lib.hid hE
  have t0 : W3.cell? ⟨w.heap.size + 1 + 1, 0, none⟩ = some (.int .i64 0) := (HDW.out.b8.cell 0).trans rfl
  have u0 : W3.frozen? ⟨w.heap.size + 1 + 1, 0, none⟩ = false := HDW.out.b8.frozen 0
  have t1 : W3.cell? ⟨w.heap.size + 1 + 1, 1, none⟩ = some (.slice none 0 0) := (HDW.out.b8.cell 1).trans rfl
  have u1 : W3.frozen? ⟨w.heap.size + 1 + 1, 1, none⟩ = false := HDW.out.b8.frozen 1
  have t2 : W3.cell? ⟨w.heap.size + 1 + 1, 2, none⟩ = some (.slice none 0 0) := (HDW.out.b8.cell 2).trans rfl
  have u2 : W3.frozen? ⟨w.heap.size + 1 + 1, 2, none⟩ = false := HDW.out.b8.frozen 2
  have t3 : W3.cell? ⟨w.heap.size + 1 + 1, 3, none⟩ = some (.slice none 0 0) := (HDW.out.b8.cell 3).trans rfl
  have u3 : W3.frozen? ⟨w.heap.size + 1 + 1, 3, none⟩ = false := HDW.out.b8.frozen 3
  have t4 : W3.cell? ⟨w.heap.size + 1 + 1, 4, none⟩ = some (.slice none 0 0) := (HDW.out.b8.cell 4).trans rfl
  have u4 : W3.frozen? ⟨w.heap.size + 1 + 1, 4, none⟩ = false := HDW.out.b8.frozen 4
  have t5 : W3.cell? ⟨w.heap.size + 1 + 1, 5, none⟩ = some (.slice none 0 0) := (HDW.out.b8.cell 5).trans rfl
  have u5 : W3.frozen? ⟨w.heap.size + 1 + 1, 5, none⟩ = false := HDW.out.b8.frozen 5
  have t6 : W3.cell? ⟨w.heap.size + 1 + 1, 6, none⟩ = some (.slice none 0 0) := (HDW.out.b8.cell 6).trans rfl
  have u6 : W3.frozen? ⟨w.heap.size + 1 + 1, 6, none⟩ = false := HDW.out.b8.frozen 6
  have t7 : W3.cell? ⟨w.heap.size + 1 + 1, 7, none⟩ = some (.slice none 0 0) := (HDW.out.b8.cell 7).trans rfl
  have u7 : W3.frozen? ⟨w.heap.size + 1 + 1, 7, none⟩ = false := HDW.out.b8.frozen 7
  have t8 : W3.cell? ⟨w.heap.size + 1 + 1, 8, none⟩ = some (.slice none 0 0) := (HDW.out.b8.cell 8).trans rfl
  have u8 : W3.frozen? ⟨w.heap.size + 1 + 1, 8, none⟩ = false := HDW.out.b8.frozen 8
  have t9 : W3.cell? ⟨w.heap.size + 1 + 1, 9, none⟩ = some (.slice none 0 0) := (HDW.out.b8.cell 9).trans rfl
  have u9 : W3.frozen? ⟨w.heap.size + 1 + 1, 9, none⟩ = false := HDW.out.b8.frozen 9
  clear hE HDW d1 O hK HGB
  go_wp2_with fail
  refine bodyPost_ret (v := .tuple #[.agg (mkC z p 0 n), .bool true]) (res9_1 rfl _ _ (w.heap.size + 1 + 1) 27 _ (0, 0) _ _ rfl rfl HE.out.2 Try.underlying27 rfl (by kernel_rfl)) rfl HE.out.1
set_option maxRecDepth 100000 in
set_option maxHeartbeats 8000000 in
theorem mutexes_none4 (w : World) (B : Nat) (h : LkH) (E : Nat → Prop) (z : LkQ) (p n : Nat) (s : Lk) (tv x t : Int) (hl : LkM w B h s) (hd : DocC w E z p 0 n s) {K : Nat} (O : LkOk K s) (hK : K ≤ 100000) (hE : ∀ k, E k → k < w.heap.size → ¬ h.W k) (hx1 : -9223372036854775808 ≤ x) (hx2 : x ≤ 9223372036854775807) (ht : 0 ≤ t) (ht2 : t ≤ 1000000) (hp : 0 < p) (hp2 : p ≤ 8) (m : Nat) (hmx : aroundV x p = (m : Int)) :
    Calls Try.prog 25 #[.pointer (some ⟨h.g, 0, none⟩), .agg (mkC z p 0 n), .agg #[.int .i64 4, .int .i64 tv, .int .i64 x], .int .i64 t] w (MuPost w B h E p 0 n s) := by
  have hdw := MuW.new w 4 tv x hl hd
  obtain ⟨W3, hW3⟩ : ∃ W, W = (((w.alloc (.cells (mkC z p 0 n) 27)).alloc (.cells #[.int .i64 4, .int .i64 tv, .int .i64 x] 34)).alloc (.cells zeroC 27)) := ⟨_, rfl⟩
  rw [← hW3] at hdw
  have hgb := hl.box.lt
  have hlo := hd.lo; have hll := hd.ll; have hlw := hd.lw
  have HDW := Lib.hid hdw; have HW3 := Lib.hid hW3; have HGB := Lib.hid hgb
  have hp0 : (0 : Int) < (p : Int) := by omega
  have hmm := aroundV_lt (n := x) hp0
  rw [hmx] at hmm
  have hm : m < p := by omega
  have har := fun W => around_any x p W hx1 hx2 hp0 (by omega)
  rw [hmx] at har
  have HAR := Lib.hid har
  obtain ⟨x0, x1, x2, x3, x4, x5, x6, x7, x8, x9⟩ := blk10 hdw.b5
  have d0 : W3.cell? ⟨w.heap.size + 1, 0, none⟩ = some (.int .i64 4) := (hdw.b6.cell 0).trans rfl
  have d1 : W3.cell? ⟨w.heap.size + 1, 1, none⟩ = some (.int .i64 tv) := (hdw.b6.cell 1).trans rfl
  have d2 : W3.cell? ⟨w.heap.size + 1, 2, none⟩ = some (.int .i64 x) := (hdw.b6.cell 2).trans rfl
  clear hl hd hdw hW3 hgb hmm har hlo hll hlw
  go_enter Try.func25, Try.ntmps25
  go_upto_region 1 with fail
  rw [← HW3.out]
  clear HW3
  go_wp2_with fail
  refine (HAR.out _).mono ?_
  rintro e w4 ⟨rfl, rfl⟩
  clear HAR
  have hE := mu_end (E := E) HDW.out.b8 HDW.out.lk (HDW.out.dc.mono (E' := ME w E) (fun i hi _ => .inl hi)) ((Fr.of_below HDW.out.bel).mono (S := h.W) (fun i hi e => by omega)) HGB.out HDW.out.hW
  have HE := Lib.hid hE
  have t0 : W3.cell? ⟨w.heap.size + 1 + 1, 0, none⟩ = some (.int .i64 0) := (HDW.out.b8.cell 0).trans rfl
  have u0 : W3.frozen? ⟨w.heap.size + 1 + 1, 0, none⟩ = false := HDW.out.b8.frozen 0
  have t1 : W3.cell? ⟨w.heap.size + 1 + 1, 1, none⟩ = some (.slice none 0 0) := (HDW.out.b8.cell 1).trans rfl
  have u1 : W3.frozen? ⟨w.heap.size + 1 + 1, 1, none⟩ = false := HDW.out.b8.frozen 1
  have t2 : W3.cell? ⟨w.heap.size + 1 + 1, 2, none⟩ = some (.slice none 0 0) := (HDW.out.b8.cell 2).trans rfl
  have u2 : W3.frozen? ⟨w.heap.size + 1 + 1, 2, none⟩ = false := HDW.out.b8.frozen 2
  have t3 : W3.cell? ⟨w.heap.size + 1 + 1, 3, none⟩ = some (.slice none 0 0) := (HDW.out.b8.cell 3).trans rfl
  have u3 : W3.frozen? ⟨w.heap.size + 1 + 1, 3, none⟩ = false := HDW.out.b8.frozen 3
  have t4 : W3.cell? ⟨w.heap.size + 1 + 1, 4, none⟩ = some (.slice none 0 0) := (HDW.out.b8.cell 4).trans rfl
  have u4 : W3.frozen? ⟨w.heap.size + 1 + 1, 4, none⟩ = false := HDW.out.b8.frozen 4
  have t5 : W3.cell? ⟨w.heap.size + 1 + 1, 5, none⟩ = some (.slice none 0 0) := (HDW.out.b8.cell 5).trans rfl
  have u5 : W3.frozen? ⟨w.heap.size + 1 + 1, 5, none⟩ = false := HDW.out.b8.frozen 5
  have t6 : W3.cell? ⟨w.heap.size + 1 + 1, 6, none⟩ = some (.slice none 0 0) := (HDW.out.b8.cell 6).trans rfl
  have u6 : W3.frozen? ⟨w.heap.size + 1 + 1, 6, none⟩ = false := HDW.out.b8.frozen 6
  have t7 : W3.cell? ⟨w.heap.size + 1 + 1, 7, none⟩ = some (.slice none 0 0) := (HDW.out.b8.cell 7).trans rfl
  have u7 : W3.frozen? ⟨w.heap.size + 1 + 1, 7, none⟩ = false := HDW.out.b8.frozen 7
  have t8 : W3.cell? ⟨w.heap.size + 1 + 1, 8, none⟩ = some (.slice none 0 0) := (HDW.out.b8.cell 8).trans rfl
  have u8 : W3.frozen? ⟨w.heap.size + 1 + 1, 8, none⟩ = false := HDW.out.b8.frozen 8
  have t9 : W3.cell? ⟨w.heap.size + 1 + 1, 9, none⟩ = some (.slice none 0 0) := (HDW.out.b8.cell 9).trans rfl
  have u9 : W3.frozen? ⟨w.heap.size + 1 + 1, 9, none⟩ = false := HDW.out.b8.frozen 9
  clear hE HDW d1 O hK HGB
  go_wp2_with fail
  refine bodyPost_ret (v := .tuple #[.agg (mkC z p 0 n), .bool true]) (res9_1 rfl _ _ (w.heap.size + 1 + 1) 27 _ (0, 0) _ _ rfl rfl HE.out.2 Try.underlying27 rfl (by kernel_rfl)) rfl HE.out.1
namespace Plain
/-- What a deed with a mutex, or a condition, leaves. -/
def mutV (s : Lk) (p q : Nat) (kind x t : Int) : Lk :=
  if kind = 0 then (lockV s (aroundV x p).toNat t).1
  else if kind = 1 then (unlockV s (aroundV x p).toNat t).1
  else if q = 0 then s
  else if kind = 2 then (waitV s (aroundV x q).toNat ((aroundV x q).toNat % p) t).1
  else if kind = 3 then (signalV s (aroundV x q).toNat ((aroundV x q).toNat % p)).1
  else (broadV (aroundV x q).toNat ((aroundV x q).toNat % p) (gl s.wq (aroundV x q).toNat) s (-1)).1
end Plain
theorem mutexes_any (kind : Int) (w : World) (B : Nat) (h : LkH) (E : Nat → Prop) (z : LkQ) (p q n : Nat) (s : Lk) (tv x t : Int) (hl : LkM w B h s) (hd : DocC w E z p q n s) {K : Nat} (O : LkOk K s) (hK : K ≤ 100000) (hE : ∀ k, E k → k < w.heap.size → ¬ h.W k) (hx1 : -9223372036854775808 ≤ x) (hx2 : x ≤ 9223372036854775807) (ht : 0 ≤ t) (ht2 : t ≤ 1000000) (hp : 0 < p) (hp2 : p ≤ 8) (hT : tot s.lq + tot s.wq + tot s.dq + 1 ≤ K) (hk0 : 0 ≤ kind) (hk4 : kind ≤ 4) (hq2 : q ≤ 8) :
    Calls Try.prog 25 #[.pointer (some ⟨h.g, 0, none⟩), .agg (mkC z p q n), .agg #[.int .i64 kind, .int .i64 tv, .int .i64 x], .int .i64 t] w (MuPost w B h E p q n (mutV s p q kind x t)) := by
  have hm := aroundV_lt (n := x) (show (0 : Int) < (p : Int) by omega)
  have hmx : aroundV x p = ((aroundV x p).toNat : Int) := by omega
  have hcs : kind = 0 ∨ kind = 1 ∨ kind = 2 ∨ kind = 3 ∨ kind = 4 := by omega
  have hc : 0 < q → aroundV x q = ((aroundV x q).toNat : Int) := fun h => by
    have := aroundV_lt (n := x) (show (0 : Int) < (q : Int) by omega)
    omega
  unfold mutV
  rcases hcs with rfl | rfl | rfl | rfl | rfl
  · exact mutexes_lock w B h E z p q n s tv x t hl hd O hK hE hx1 hx2 ht ht2 hp hp2 _ hmx _ _ rfl
  · exact mutexes_unlock w B h E z p q n s tv x t hl hd O hK hE hx1 hx2 ht ht2 hp hp2 _ hmx _ _ _ rfl
  · by_cases hq : q = 0
    · subst hq
      exact mutexes_none2 w B h E z p n s tv x t hl hd O hK hE hx1 hx2 ht ht2 hp hp2 _ hmx
    · simp only [if_neg hq]
      exact mutexes_wait w B h E z p q n s tv x t hl hd O hK hE hx1 hx2 ht ht2 hp hp2 _ hmx _ _ (by omega) hq2 (hc (by omega)) rfl hT _ _ _ rfl
  · by_cases hq : q = 0
    · subst hq
      exact mutexes_none3 w B h E z p n s tv x t hl hd O hK hE hx1 hx2 ht ht2 hp hp2 _ hmx
    · simp only [if_neg hq]
      exact mutexes_signal w B h E z p q n s tv x t hl hd O hK hE hx1 hx2 ht ht2 hp hp2 _ hmx _ _ (by omega) hq2 (hc (by omega)) rfl _ _ _ rfl
  · by_cases hq : q = 0
    · subst hq
      exact mutexes_none4 w B h E z p n s tv x t hl hd O hK hE hx1 hx2 ht ht2 hp hp2 _ hmx
    · simp only [if_neg hq]
      exact mutexes_broadcast w B h E z p q n s tv x t hl hd O hK hE hx1 hx2 ht ht2 hp hp2 _ hmx _ _ (by omega) hq2 (hc (by omega)) rfl _ _ rfl
end Go.Proofs.Ytikelkfinjcgaaa
