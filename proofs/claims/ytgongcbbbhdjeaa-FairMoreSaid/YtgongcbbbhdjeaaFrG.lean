
/-
  Full: into how many pieces picks may be cut, of the program and of the document.
-/
import Derived.Test.YtgongcbbbhdjeaaFrF
import Derived.Test.YtgongcbbbhdjeaaFrN
set_option linter.unusedVariables false
set_option linter.unusedSimpArgs false
namespace Go.Proofs.Ytgongcbbbhdjeaa
open Go.RowKit Go.Shelf Plain
attribute [local go_sem] Oper.semAt_some

/-- Where the loop of Full stands. -/
structure FuI (w : World) (A : Option Addr) (N c : Nat) (n : Int) (M : Nat) (f : Int → Option Nat) (k g : Nat) (W : World) : Prop where
  b0 : Blk W w.heap.size 22 #[.slice A N c]
  b1 : Blk W (w.heap.size + 1) 3 #[.int .i64 n]
  b2 : Blk W (w.heap.size + 1 + 1) 3 #[.int .i64 (g : Int)]
  mp : IsMN W (w.heap.size + 1 + 1 + 1) f k
  b4 : Blk W (w.heap.size + 1 + 1 + 1 + 1) 37 #[.map (some (w.heap.size + 1 + 1 + 1))]
  b5 : Blk W (w.heap.size + 1 + 1 + 1 + 1 + 1) 22 #[.slice A N c]
  b6 : Blk W (w.heap.size + 1 + 1 + 1 + 1 + 1 + 1) 3 #[.int .i64 (M : Int)]
  be : Below w.heap.size w W
section
variable {w W W' : World} {A : Option Addr} {N c M k g : Nat} {n : Int} {f : Int → Option Nat}
theorem FuI.put (h : FuI w A N c n M f k g W) (hf : Fr (fun k => w.heap.size + 7 ≤ k) W W') : FuI w A N c n M f k g W' :=
  ⟨hf.blk h.b0 (by omega), hf.blk h.b1 (by omega), hf.blk h.b2 (by omega), h.mp.fr hf (by omega), hf.blk h.b4 (by omega), hf.blk h.b5 (by omega), hf.blk h.b6 (by omega), h.be.trans (hf.below h.be.size (fun i hi => by omega))⟩
theorem FuI.drew (h : FuI w A N c n M f k g W) : FuI w A N c n M f k g W.drew := h.put (Fr.refl _ _).drew
theorem FuI.map (h : FuI w A N c n M f k g W) {f' : Int → Option Nat} {k' : Nat} (hm : IsMN W' (w.heap.size + 1 + 1 + 1) f' k') (hf : Fr (fun i => i = w.heap.size + 1 + 1 + 1) W W') : FuI w A N c n M f' k' g W' :=
  ⟨hf.blk h.b0 (by omega), hf.blk h.b1 (by omega), hf.blk h.b2 (by omega), hm, hf.blk h.b4 (by omega), hf.blk h.b5 (by omega), hf.blk h.b6 (by omega), h.be.trans (hf.below h.be.size (fun i hi => by omega))⟩
theorem FuI.more (h : FuI w A N c n M f k g W) : FuI w A N c n M f k (g + 1) (W.setCell ⟨w.heap.size + 1 + 1, 0, none⟩ (.int .i64 ((g : Int) + 1))) ∧ Fr (fun i => i = w.heap.size + 1 + 1) W (W.setCell ⟨w.heap.size + 1 + 1, 0, none⟩ (.int .i64 ((g : Int) + 1))) := by
  have hf : Fr (fun i => i = w.heap.size + 1 + 1) W (W.setCell ⟨w.heap.size + 1 + 1, 0, none⟩ (.int .i64 ((g : Int) + 1))) := (Fr.refl (fun i => i = w.heap.size + 1 + 1) W).setCell (p := ⟨w.heap.size + 1 + 1, 0, none⟩) (.inl rfl) _
  refine ⟨⟨hf.blk h.b0 (by omega), hf.blk h.b1 (by omega), ?_, h.mp.fr hf (by omega), hf.blk h.b4 (by omega), hf.blk h.b5 (by omega), hf.blk h.b6 (by omega), h.be.trans (hf.below h.be.size (fun i hi => by omega))⟩, hf⟩
  have := h.b2.set_ 0 (.int .i64 ((g : Int) + 1))
  simpa using this
theorem KeepsFrom.drew_right {B : Nat} (h : KeepsFrom B W W') : KeepsFrom B W W'.drew := ⟨h.size, h.same⟩
end

set_option maxRecDepth 100000 in
set_option maxHeartbeats 8000000 in
theorem full_any (w : World) (BB : Nat) (A : Option Addr) (N c : Nat) (l : List Int) (hr : Reads w BB 1 A N (l.map EnI)) (hl : l.length = N) (hN : N ≤ 1000000) (hBB : BB ≤ w.heap.size) (n : Int) (h1 : -9223372036854775808 ≤ n) (h2 : n ≤ 9223372036854775807) :
    Calls Try.prog 23 #[.slice A N c, .int .i64 n] w fun e w' => e = .returned (.int .i64 (fullV l (manyV n) : Int)) ∧ Below w.heap.size w w' := by
  refine (callsIn_wide (n := 3)).1 ?_
  refine callsIn_of_wp_marks Try.func23 rfl trivial ?_ rfl
  simp only [Try.ntmps23, List.size_toArray, List.length_cons, List.length_nil, Nat.reduceAdd, Nat.reduceSub, Array.replicate_succ, Array.replicate_zero, List.push_toArray, List.append_toArray, List.nil_append, List.cons_append]
  have HR := Lib.hid hr; have HL := Lib.hid hl
  have hw := fun W => within_any n W h1 h2
  have HW := Lib.hid hw
  have hM1 := manyV_pos n
  have hM2 := manyV_le n
  have hmk := fun W => run_makeMap (P := Try.prog) 37 W
  clear hr hl hw
  gi_wp2_with fail
  refine ⟨trivial, (callsIn_wide.2 (places_any _ A N c n h1 h2)).mono ?_⟩
  rintro e w1 ⟨rfl, rfl⟩
  gi_wp2_with fail
  have hI0 : FuI w A N c n (manyV n) (fuFold l (manyV n) []).f (fuFold l (manyV n) []).n (fuFold l (manyV n) []).g (((((((w.alloc (.cells #[.slice A N c] 22)).alloc (.cells #[.int .i64 n] 3)).alloc (.cells #[.int .i64 0] 3)).alloc (.map #[] 0)).alloc (.cells #[.map (some (w.heap.size + 1 + 1 + 1))] 37)).alloc (.cells #[.slice A N c] 22)).alloc (.cells #[.int .i64 (manyV n : Int)] 3)) := by
    have q0 := Blk.new w 22 #[.slice A N c]
    have q1 := Blk.new (w.alloc (.cells #[.slice A N c] 22)) 3 #[.int .i64 n]
    have q2 := Blk.new ((w.alloc (.cells #[.slice A N c] 22)).alloc (.cells #[.int .i64 n] 3)) 3 #[.int .i64 0]
    have q3 := IsMN.new (((w.alloc (.cells #[.slice A N c] 22)).alloc (.cells #[.int .i64 n] 3)).alloc (.cells #[.int .i64 0] 3))
    have q4 := Blk.new ((((w.alloc (.cells #[.slice A N c] 22)).alloc (.cells #[.int .i64 n] 3)).alloc (.cells #[.int .i64 0] 3)).alloc (.map #[] 0)) 37 #[.map (some (w.heap.size + 1 + 1 + 1))]
    have q5 := Blk.new (((((w.alloc (.cells #[.slice A N c] 22)).alloc (.cells #[.int .i64 n] 3)).alloc (.cells #[.int .i64 0] 3)).alloc (.map #[] 0)).alloc (.cells #[.map (some (w.heap.size + 1 + 1 + 1))] 37)) 22 #[.slice A N c]
    have q6 := Blk.new ((((((w.alloc (.cells #[.slice A N c] 22)).alloc (.cells #[.int .i64 n] 3)).alloc (.cells #[.int .i64 0] 3)).alloc (.map #[] 0)).alloc (.cells #[.map (some (w.heap.size + 1 + 1 + 1))] 37)).alloc (.cells #[.slice A N c] 22)) 3 #[.int .i64 (manyV n : Int)]
    simp only [World.size_alloc] at q1 q2 q3 q4 q5 q6
    exact ⟨(((((q0.alloc _).alloc _).alloc _).alloc _).alloc _).alloc _, ((((q1.alloc _).alloc _).alloc _).alloc _).alloc _, (((q2.alloc _).alloc _).alloc _).alloc _, q3.fr ((((Fr.refl (fun _ => False) _).alloc _).alloc _).alloc _) (fun h => h), (q4.alloc _).alloc _, q5.alloc _, q6,
      (((((((Below.refl _ w).alloc (Nat.le_refl _) _).alloc (by simp) _).alloc (by simp; omega) _).alloc (by simp; omega) _).alloc (by simp; omega) _).alloc (by simp; omega) _).alloc (by simp; omega) _⟩
  have hVs : (((((((w.alloc (.cells #[.slice A N c] 22)).alloc (.cells #[.int .i64 n] 3)).alloc (.cells #[.int .i64 0] 3)).alloc (.map #[] 0)).alloc (.cells #[.map (some (w.heap.size + 1 + 1 + 1))] 37)).alloc (.cells #[.slice A N c] 22)).alloc (.cells #[.int .i64 (manyV n : Int)] 3)).heap.size = w.heap.size + 7 := by simp
  generalize (((((((w.alloc (.cells #[.slice A N c] 22)).alloc (.cells #[.int .i64 n] 3)).alloc (.cells #[.int .i64 0] 3)).alloc (.map #[] 0)).alloc (.cells #[.map (some (w.heap.size + 1 + 1 + 1))] 37)).alloc (.cells #[.slice A N c] 22)).alloc (.cells #[.int .i64 (manyV n : Int)] 3)) = V at hI0 hVs ⊢
  clear hmk
  refine range_toldF (n := 3) (by omega) (gf := 32) (lb := #[.pointer (some ⟨w.heap.size + 1 + 1 + 1 + 1 + 1, 0, none⟩), .pointer (some ⟨w.heap.size + 1 + 1 + 1 + 1 + 1 + 1, 0, none⟩)]) rfl (enters_of Try.func32 (by kernel_rfl) rfl) (fun x : Nat => #[.int .i64 (x : Int)]) (fun _ => rfl)
    (fun pre => FuI w A N c n (manyV n) (fuFold l (manyV n) pre).f (fuFold l (manyV n) pre).n (fuFold l (manyV n) pre).g) (fun pre W k o o' hI hk ho hc => hI.put ((putObj_frF (w := V) W k o' (by omega)).mono (fun i _ h => by omega))) (fun pre W o hI => hI.put ((alloc_frF (w := V) W o).mono (fun i _ h => by omega))) hI0
    (fun x => { tmps := #[.slice A N c, .int .i64 n, .pointer (some ⟨w.heap.size, 0, none⟩), .pointer (some ⟨w.heap.size + 1, 0, none⟩), .int .i64 0, .pointer (some ⟨w.heap.size + 1 + 1, 0, none⟩), .pointer (some ⟨w.heap.size + 1 + 1 + 1 + 1, 0, none⟩), .int .i64 (x : Int), .map (some (w.heap.size + 1 + 1 + 1)), .slice A N c, .int .i64 n, .func (.func 32) #[] #[.pointer (some ⟨w.heap.size + 1 + 1 + 1 + 1 + 1, 0, none⟩), .pointer (some ⟨w.heap.size + 1 + 1 + 1 + 1 + 1 + 1, 0, none⟩)], .int .i64 (x : Int), undef, undef, undef, undef, undef, undef, undef, undef, undef, undef, undef, undef, undef, undef, undef, undef], defers := [] }) ?assign
    (fun xs => xs = placesV l (manyV n) N) (fun pre x => x < N ∧ isW (manyV n) (gi l x) = true ∧ pre = placesV l (manyV n) x) ?hit ?body ?done
  case assign =>
    intro lq x W K hK
    gi_wp2
    exact hK
  case hit =>
    intro lq J W hJI hJ0 hY
    refine (places_in 2 (by omega) lq _ _ A N c (manyV n) l HL.out (by omega) J (fun _ _ => False) (fun pre W hJ => ?_) (fun pre x W hJ hv => (hY pre x W hJ hv).mono fun e W' h => .inl h) W hJ0).mono ?_
    · have hI := hJI pre W hJ
      exact ⟨(hI.b5.cell 0).trans rfl, (hI.b6.cell 0).trans rfl, BB, HR.out.below (hI.be.mono hBB)⟩
    · rintro e W' ⟨h1, h2 | ⟨k, _, h2⟩⟩
      · exact ⟨h1, _, rfl, h2⟩
      · exact h2.elim
  case body =>
    rintro lq pre x W hI ⟨hx, hwk, hpre⟩
    have hinv := fuInv_of l (manyV n) hM1 x (by have := HL.out; omega)
    rw [← hpre] at hinv
    have hle := hinv.le (gi l x)
    have hgl := (gs_le (l := l) (M := manyV n) x).2
    rw [← hinv.full] at hgl
    have hsnoc := fuFold_snoc l (manyV n) pre x
    unfold fuStep at hsnoc
    generalize fuFold l (manyV n) pre = s at hI hle hgl hsnoc hinv
    obtain ⟨ad, v, rfl, hab, hv, hcx0⟩ := HR.out.num hx
    have hgx : gi l x = v := by unfold gi; rw [hv]; rfl
    rw [hgx] at hsnoc hle
    have hIw := hI.drew
    have hlk := hIw.mp.look under_map under_int (zero_intF _) v
    obtain ⟨W2, hput, hm2, hf2, hs2⟩ := hIw.mp.put under_map under_int v ((s.f v).getD 0 + 1)
    rw [show (((s.f v).getD 0 + 1 : Nat) : Int) = ((s.f v).getD 0 : Int) + 1 by omega] at hput
    have hI2 := hIw.map hm2 hf2
    obtain ⟨k2, hk2⟩ : ∃ k2, k2 = (if s.f v = none then s.n + 1 else s.n) := ⟨_, rfl⟩
    rw [← hk2] at hsnoc hI2
    have hcx : W2.cell? (ad.add x) = some (.int .i64 v) := (hI2.be.cell (p := ad.add x) (by rw [block_of_add]; omega)).trans hcx0
    have hcx1 : W.drew.cell? (ad.add x) = some (.int .i64 v) := (hIw.be.cell (p := ad.add x) (by rw [block_of_add]; omega)).trans hcx0
    have hsA : ∀ W3 f k g, FuI w (some ad) N c n (manyV n) f k g W3 → W3.cell? (ad.add x) = some (.int .i64 v) → W3.cell? ⟨w.heap.size + 1 + 1 + 1 + 1, 0, none⟩ = some (.map (some (w.heap.size + 1 + 1 + 1))) ∧ W3.cell? ⟨w.heap.size, 0, none⟩ = some (.slice (some ad) N c) ∧ W3.cell? (ad.add x) = some (.int .i64 v) :=
      fun W3 f k g h hc => ⟨(h.b4.cell 0).trans rfl, (h.b0.cell 0).trans rfl, hc⟩
    have hs1 := hsA _ _ _ _ hIw hcx1
    have hs3 := hsA _ _ _ _ hI2 hcx
    have hk1 : KeepsFrom V.heap.size W W2 := keeps_fr (S := fun i => i = w.heap.size + 1 + 1 + 1) ((Fr.refl _ W).drew.trans hf2 (fun _ _ h => h)) (fun i hi => by omega)
    have c3 : W2.cell? ⟨w.heap.size + 1, 0, none⟩ = some (.int .i64 n) := (hI2.b1.cell 0).trans rfl
    have c2 : W2.cell? ⟨w.heap.size + 1 + 1, 0, none⟩ = some (.int .i64 (s.g : Int)) := (hI2.b2.cell 0).trans rfl
    have z2 : W2.frozen? ⟨w.heap.size + 1 + 1, 0, none⟩ = false := hI2.b2.frozen 0
    have c4 := hs3.1
    have hlen := hI2.mp.len under_map 3
    have hk2b : k2 ≤ 10000000 := by
      have := hinv.cnt
      have h7 : cntF s.f (manyV n) ≤ manyV n := by unfold cntF; refine Nat.le_trans List.countP_le_length ?_; simp
      rw [hk2]
      split <;> omega
    have HI2 := Lib.hid hI2; have HK1 := Lib.hid hk1; have HS1 := Lib.hid hs1; have HS3 := Lib.hid hs3; have HSN := Lib.hid hsnoc
    have hgN : s.g ≤ 1000000 := by omega
    have heN : (s.f v).getD 0 ≤ 1000000 := by omega
    clear hI hI0 hinv hv hcx0 hpre hf2 hwk hgx hIw hm2 hs2 hI2 hk2 hcx hcx1 hsA hk1 hs1 hs3 hsnoc hab hle hgl
    generalize hM : manyV n = M at *
    have HMM := Lib.hid hM
    clear hM
    generalize (s.f v).getD 0 = e0 at *
    have q0 : (0 : Int) ≤ (x : Int) := by omega
    have q1 : (x : Int) < (N : Int) := by omega
    have hmix : Try.prog.follows .mixedOrders = true := by kernel_rfl
    have hw1 : IntKind.i64.wrap ((e0 : Int) + 1) = (e0 : Int) + 1 := IntWalk.i64_in _ (by omega)
    have hw2 : IntKind.i64.wrap ((s.g : Int) + 1) = (s.g : Int) + 1 := IntWalk.i64_in _ (by omega)
    gi_wp2
    refine held_roundF (S := fun w' => w'.cell? ⟨w.heap.size + 1 + 1 + 1 + 1, 0, none⟩ = some (.map (some (w.heap.size + 1 + 1 + 1))) ∧ w'.cell? ⟨w.heap.size, 0, none⟩ = some (.slice (some ad) N c) ∧ w'.cell? (ad.add x) = some (.int .i64 v)) hmix (by kernel_rfl) HS1.out (fun hHeld => ?_)
    refine wpAnyH_take (i := 0) (v := ?v1) rfl (by kernel_rfl) (by kernel_rfl) (by kernel_rfl) (fun _ _ _ h => Exit.noConfusion h.1) (Or.inl ⟨by rfl, ?hy1⟩) (by assumption) ?rest1
    case hy1 => (intro w hSw; (try dsimp only at hSw); go_simp; try (with_reducible rfl))
    try simp only [Act.put, List.setIfInBounds_toArray, List.set_cons_zero, List.set_cons_succ]
    refine wpAnyH_take (i := 1) (v := ?v2) rfl (by kernel_rfl) (by kernel_rfl) (by kernel_rfl) (fun _ _ _ h => Exit.noConfusion h.1) (Or.inl ⟨by rfl, ?hy2⟩) (by assumption) ?rest2
    case hy2 => (intro w hSw; (try dsimp only at hSw); go_simp; try (with_reducible rfl))
    try simp only [Act.put, List.setIfInBounds_toArray, List.set_cons_zero, List.set_cons_succ]
    refine wpAnyH_take (i := 2) (v := ?v3) rfl (by kernel_rfl) (by kernel_rfl) (by kernel_rfl) (fun _ _ _ h => Exit.noConfusion h.1) (Or.inl ⟨by rfl, ?hy3⟩) (by assumption) ?rest3
    case hy3 => (intro w hSw; (try dsimp only at hSw); go_simp; try (with_reducible rfl))
    try simp only [Act.put, List.setIfInBounds_toArray, List.set_cons_zero, List.set_cons_succ]
    refine wpAnyH_take (i := 3) (v := ?v4) rfl (by kernel_rfl) (by kernel_rfl) (by kernel_rfl) (fun _ _ _ h => Exit.noConfusion h.1) (Or.inl ⟨by rfl, ?hy4⟩) (by assumption) ?rest4
    case hy4 => (intro w hSw; (try dsimp only at hSw); go_simp; try (with_reducible rfl))
    try simp only [Act.put, List.setIfInBounds_toArray, List.set_cons_zero, List.set_cons_succ]
    refine wpAnyH_take (i := 4) (v := ?v5) rfl (by kernel_rfl) (by kernel_rfl) (by kernel_rfl) (fun _ _ _ h => Exit.noConfusion h.1) (Or.inl ⟨by rfl, ?hy5⟩) (by assumption) ?rest5
    case hy5 => (intro w hSw; (try dsimp only at hSw); go_simp; try (with_reducible rfl))
    try simp only [Act.put, List.setIfInBounds_toArray, List.set_cons_zero, List.set_cons_succ]
    refine wpAnyH_ready (rs := [5]) (by kernel_rfl) (by simp) ?_
    refine AllReadyH.cons rfl (fun K hK => ?_) AllReadyH.nil
    go_simp
    refine hK.out _ _ ?_ (fun hHeld => ?_)
    · exact HS1.out
    clear hK K
    try simp only [Act.put, List.setIfInBounds_toArray, List.set_cons_zero, List.set_cons_succ]
    refine wpAnyH_take (i := 6) (v := ?v6) rfl (by kernel_rfl) (by kernel_rfl) (by kernel_rfl) (fun _ _ _ h => Exit.noConfusion h.1) (Or.inl ⟨by rfl, ?hy6⟩) (by assumption) ?rest6
    case hy6 => (intro w hSw; (try dsimp only at hSw); go_simp; try (with_reducible rfl))
    try simp only [Act.put, List.setIfInBounds_toArray, List.set_cons_zero, List.set_cons_succ]
    refine wpAnyH_ready (rs := [7]) (by kernel_rfl) (by simp) ?_
    refine AllReadyH.cons rfl (fun K hK => ?_) AllReadyH.nil
    go_simp
    refine hK.out _ _ ?_ (fun hHeld => ?_)
    · exact HS3.out
    clear hK K
    try simp only [Act.put, List.setIfInBounds_toArray, List.set_cons_zero, List.set_cons_succ]
    refine wpAnyH_done (by kernel_rfl) ?_ _
    refine ⟨rfl, ?_⟩
    by_cases hkM : k2 = M
    · have hkb : ((k2 : Int) == (M : Int)) = true := by simp; omega
      have hsn := HSN.out
      rw [if_pos hkM] at hsn
      obtain ⟨hI3, hf3⟩ := HI2.out.more
      obtain ⟨W4, hwipe, hm4, hf4, hs4⟩ := hI3.mp.wipe under_map 0
      have hI4 := hI3.map hm4 hf4
      have hk4 := (HK1.out.trans (keeps_fr (B := V.heap.size) hf3 (fun i hi => by omega))).trans (keeps_fr (B := V.heap.size) hf4 (fun i hi => by omega))
      have c4' : (W2.setCell ⟨w.heap.size + 1 + 1, 0, none⟩ (.int .i64 ((s.g : Int) + 1))).cell? ⟨w.heap.size + 1 + 1 + 1 + 1, 0, none⟩ = some (.map (some (w.heap.size + 1 + 1 + 1))) := (hI3.b4.cell 0).trans rfl
      have HI4 := Lib.hid hI4; have HK4 := Lib.hid hk4; have HSN2 := Lib.hid hsn
      clear hsn hkM hI3 hf3 hm4 hf4 hs4 hI4 hk4 HSN
      gi_wp2
      refine ⟨trivial, (CallsIn.inRound lq (callsIn_wide.2 (HW.out W2))).mono ?_⟩
      rintro e w' ⟨rfl, rfl⟩
      gi_wp2
      refine ⟨hVs ▸ HK4.out, ?_⟩
      rw [HMM.out] at *
      rw [HSN2.out]
      exact HI4.out
    · have hkb : ((k2 : Int) == (M : Int)) = false := by simp; omega
      have hsn := HSN.out
      rw [if_neg hkM] at hsn
      have HSN2 := Lib.hid hsn
      clear hsn hkM HSN
      gi_wp2
      refine ⟨trivial, (CallsIn.inRound lq (callsIn_wide.2 (HW.out W2))).mono ?_⟩
      rintro e w' ⟨rfl, rfl⟩
      gi_wp2
      refine ⟨hVs ▸ HK1.out, ?_⟩
      rw [HMM.out] at *
      rw [HSN2.out]
      exact HI2.out
  case done =>
    rintro D xs W hD rfl hI hK
    have hinv := fuInv_of l (manyV n) hM1 N (by rw [HL.out]; exact Nat.le_refl _)
    have hg := hinv.full
    rw [hg] at hI
    have hgl := (gs_le (l := l) (M := manyV n) N).2
    have hfv : fullV l (manyV n) = (gsV l (manyV n) N).2 := by unfold fullV; rw [HL.out]
    have c2 : W.cell? ⟨w.heap.size + 1 + 1, 0, none⟩ = some (.int .i64 ((gsV l (manyV n) N).2 : Int)) := (hI.b2.cell 0).trans rfl
    have hbe := hI.be
    have HB := Lib.hid hbe; have HK := Lib.hid hK; have HFV := Lib.hid hfv
    clear hI hI0 hbe hK hinv hg hfv
    gi_wp2
    refine ⟨by simp, .inl ⟨_, _, rfl, run_takeDeferred HK.out, ?_⟩⟩
    exact ⟨_, results_tmp rfl _ _ _, by rw [HFV.out]; rfl, HB.out.trans ((putObj_frF (w := V) _ D _ (by omega)).below HB.out.size (fun i hi => by omega))⟩

namespace Plain
/-- The row of the bests: of the first k picks and fewer, and what stands for k now. -/
def bestF (l : List Int) (M k b j : Nat) : Nat := if j < k then (gsV l M j).2 else if j = k then b else 0
def bestR (l : List Int) (M N k b : Nat) : List Value := (List.range (N + 1)).map fun (j : Nat) => .int .i64 (bestF l M k b j : Int)
theorem bestR_at {l : List Int} {M N k b j : Nat} (h : j ≤ N) : (bestR l M N k b).toArray[j]? = some (.int .i64 (bestF l M k b j : Int)) := by
  unfold bestR
  simp [show j < N + 1 by omega]
theorem bestR_set {l : List Int} {M N k b b' : Nat} (h : k ≤ N) : (bestR l M N k b).set k (.int .i64 (b' : Int)) = bestR l M N k b' := by
  unfold bestR
  apply List.ext_getElem
  · simp
  · intro i h1 h2
    rw [List.getElem_set]
    simp only [List.getElem_map, List.getElem_range]
    unfold bestF
    by_cases e : k = i
    · subst e
      simp
    · have e2 : ¬ i = k := fun q => e q.symm
      simp [e, e2]
theorem bestR_next {l : List Int} {M N k : Nat} : bestR l M N k (gsV l M k).2 = bestR l M N (k + 1) 0 := by
  unfold bestR
  refine List.map_congr_left fun j _ => ?_
  unfold bestF
  rcases Nat.lt_trichotomy j k with h | h | h
  · rw [if_pos h, if_pos (by omega)]
  · subst h
    rw [if_neg (by omega), if_pos rfl, if_pos (by omega)]
  · rw [if_neg (by omega), if_neg (by omega), if_neg (by omega)]
    split <;> rfl
theorem bestR_init {l : List Int} {M N : Nat} : (bestR l M N 1 0).toArray = Array.replicate (N + 1) (.int .i64 0) := by
  unfold bestR
  apply Array.ext
  · simp
  · intro i h1 h2
    simp [bestF]
    intro e
    have : i = 0 := by omega
    subst this
    simp [gsV]
end Plain
set_option maxHeartbeats 8000000 in
theorem refFull_any (w : World) (BB : Nat) (A : Option Addr) (N c : Nat) (l : List Int) (hr : Reads w BB 1 A N (l.map EnI)) (hl : l.length = N) (hc : N ≤ c) (hN : N ≤ 1000000) (hBB : BB ≤ w.heap.size) (n : Int) :
    Calls Try.prog 24 #[.slice A N c, .int .i64 n] w fun e w' => e = .returned (.int .i64 (fullV l (manyV n) : Int)) ∧ Below w.heap.size w w' := by
  have hall : ∀ W, Below w.heap.size w W → ∀ i m : Nat, i + m ≤ N → 0 < m → Calls Try.prog 29 #[.slice (A.map (·.add i)) m (c - i), .int .i64 n] W fun e w' => e = .returned (.bool (allL (cutL l i m) (manyV n))) ∧ w' = W := by
    intro W hb i m hi h0
    have hcut := (hr.below (hb.mono hBB)).cut (k := i) (cap := c) (by omega) hc
    rw [if_neg (by omega), Nat.mul_one, ← List.map_drop] at hcut
    have hfew := hcut.few (m := m) (by omega)
    exact refAll_any W BB _ m _ (cutL l i m) hfew (by unfold cutL; simp; omega) (by omega) n
  have hM1 := manyV_pos n
  have hfv : fullV l (manyV n) = (gsV l (manyV n) N).2 := by unfold fullV; rw [hl]
  generalize manyV n = M at *
  have hmk := fun W => made_ints (N + 1) (by omega) W
  simp only [Int.natCast_add, Int.natCast_one] at hmk
  have HC := Lib.hid hall; have HL := Lib.hid hl; have HFV := Lib.hid hfv
  clear hr hl hall hfv
  have hmix : Try.prog.follows .mixedOrders = true := by kernel_rfl
  go_enter Try.func24, Try.ntmps24
  go_wp2_with fail
  have hb0 : Blk (w.alloc (.cells (Array.replicate (N + 1) (.int .i64 0)) 3)) w.heap.size 3 (bestR l M N 1 0).toArray := by
    rw [bestR_init]
    exact Blk.new _ _ _
  have hbe0 : Below w.heap.size w (w.alloc (.cells (Array.replicate (N + 1) (.int .i64 0)) 3)) := (Below.refl _ _).alloc (Nat.le_refl _) _
  generalize (w.alloc (.cells (Array.replicate (N + 1) (.int .i64 0)) 3)) = W0 at hb0 hbe0 ⊢
  have HB0 := Lib.hid hb0; have HE0 := Lib.hid hbe0
  clear hb0 hbe0 hmk
  go_loopw [6] (fun s6 wr => ∃ k : Nat, 1 ≤ k ∧ k ≤ N + 1 ∧ s6 = .int .i64 (k : Int) ∧ Hid (Blk wr w.heap.size 3 (bestR l M N k 0).toArray) ∧ Hid (Below w.heap.size w wr)) (fun s6 _ => N + 1 - (intOf s6).toNat)
  case atStart => exact ⟨1, by omega, by omega, rfl, HB0, HE0⟩
  case round =>
    obtain ⟨k, hk1, hk2, rfl, HB, HE⟩ := hrel
    by_cases hlt : k ≤ N
    · have hw1 : IntKind.i64.wrap ((k : Int) - 1) = ((k - 1 : Nat) : Int) := by rw [IntWalk.i64_in _ (by omega)]; omega
      have c0 : wr.cell? ⟨w.heap.size, k - 1, none⟩ = some (.int .i64 ((gsV l M (k - 1)).2 : Int)) := by
        rw [HB.out.cell, bestR_at (by omega)]
        unfold bestF
        rw [if_pos (by omega)]
      have c1 : wr.cell? ⟨w.heap.size, k, none⟩ = some (.int .i64 0) := by
        rw [HB.out.cell, bestR_at hlt]
        unfold bestF
        rw [if_neg (by omega), if_pos rfl]
        rfl
      have z1 : wr.frozen? ⟨w.heap.size, k, none⟩ = false := HB.out.frozen k
      have hb2 := HB.out.set_ k (.int .i64 ((gsV l M (k - 1)).2 : Int))
      rw [List.setIfInBounds_toArray, bestR_set hlt, show (gsV l M (k - 1)).2 = dpV l M k 0 from rfl] at hb2
      have hbe2 := HE.out.setCell (p := ⟨w.heap.size, k, none⟩) (Nat.le_refl _) (.int .i64 ((gsV l M (k - 1)).2 : Int))
      have q0 : (0 : Int) ≤ (k : Int) := by omega
      have q1 : (k : Int) < (N : Int) + 1 := by omega
      have q2 : (0 : Int) ≤ ((k - 1 : Nat) : Int) := by omega
      have q3 : ((k - 1 : Nat) : Int) < (N : Int) + 1 := by omega
      have q4 : k < N + 1 := by omega
      have q5 : k - 1 < N + 1 := by omega
      have HB2 := Lib.hid hb2; have HE2 := Lib.hid hbe2
      have hde := dp_end (l := l) (M := M) hk1
      have HDE := Lib.hid hde
      clear hb2 hbe2 hde
      go_wp2_with fail
      go_loopw [7] (fun s7 wr => ∃ i : Nat, i ≤ k ∧ s7 = .int .i64 (i : Int) ∧ Hid (Blk wr w.heap.size 3 (bestR l M N k (dpV l M k i)).toArray) ∧ Hid (Below w.heap.size w wr)) (fun s7 _ => k - (intOf s7).toNat)
      case atStart => exact ⟨0, by omega, rfl, HB2, HE2⟩
      case round =>
        clear HB2 HE2 HB HE c0 c1 z1
        obtain ⟨i, hi, rfl, HB, HE⟩ := hrel
        by_cases hlt2 : i < k
        · have hcn := HC.out _ HE.out i (k - i) (by omega) (by omega)
          have p0 : (0 : Int) ≤ (i : Int) := by omega
          have p1 : (i : Int) ≤ (k : Int) := by omega
          have p2 : (k : Int) ≤ (c : Int) := by omega
          have p3 : k ≤ c := by omega
          have p4 : ¬ c = i := by omega
          have HCN := Lib.hid hcn
          clear hcn
          go_wp2_with fail
          refine HCN.out.mono ?_
          rintro e w' ⟨rfl, rfl⟩
          clear HCN
          by_cases ha : allL (cutL l i (k - i)) M = true
          · rw [ha]
            have c0 : w'.cell? ⟨w.heap.size, k, none⟩ = some (.int .i64 (dpV l M k i : Int)) := by
              rw [HB.out.cell, bestR_at hlt]
              unfold bestF
              rw [if_neg (by omega), if_pos rfl]
            have c1 : w'.cell? ⟨w.heap.size, i, none⟩ = some (.int .i64 ((gsV l M i).2 : Int)) := by
              rw [HB.out.cell, bestR_at (by omega)]
              unfold bestF
              rw [if_pos hlt2]
            have z1 : w'.frozen? ⟨w.heap.size, k, none⟩ = false := HB.out.frozen k
            have hg := (gs_le (l := l) (M := M) i).2
            have hw2 : IntKind.i64.wrap (((gsV l M i).2 : Int) + 1) = ((gsV l M i).2 : Int) + 1 := IntWalk.i64_in _ (by omega)
            have hb2 := HB.out.set_ k (.int .i64 (dpV l M k (i + 1) : Int))
            rw [List.setIfInBounds_toArray, bestR_set hlt] at hb2
            have hbe2 := HE.out.setCell (p := ⟨w.heap.size, k, none⟩) (Nat.le_refl _) (.int .i64 (dpV l M k (i + 1) : Int))
            have hd : dpV l M k (i + 1) = max (dpV l M k i) ((gsV l M i).2 + 1) := by rw [dpV, if_pos ha]
            have HB2 := Lib.hid hb2; have HE2 := Lib.hid hbe2; have HD := Lib.hid hd
            clear hb2 hbe2 hd ha HB HE
            generalize (gsV l M i).2 = g0 at *
            generalize dpV l M k i = d0 at *
            generalize hd1 : dpV l M k (i + 1) = d1 at *
            have HD1 := Lib.hid hd1
            clear hd1
            have r0 : (i : Int) < (N : Int) + 1 := by omega
            have r1 : i < N + 1 := by omega
            have hki : ¬ k = i := by omega
            have hmx : (if (d0 : Int) < (g0 : Int) + 1 then (g0 : Int) + 1 else (d0 : Int)) = (d1 : Int) := by
              have := HD.out
              split <;> omega
            have HMX := Lib.hid hmx
            clear hmx
            go_wp2_with fail
            refine wp_region_noPanic ?_
            refine wp_region_held_drew (S := fun w2 => w2.cell? ⟨w.heap.size, i, none⟩ = some (.int .i64 (g0 : Int))) hmix c1 (fun hHeld => ?_)
            refine wpAnyH_take (i := 0) (v := ?v501) rfl (by kernel_rfl) (by kernel_rfl) (by kernel_rfl) (fun _ _ _ h => h) (Or.inl ⟨by rfl, ?hy501⟩) (by assumption) ?rest501
            case hy501 => (intro w hSw; (try dsimp only at hSw); go_simp; try (with_reducible rfl))
            try simp only [Act.put, List.setIfInBounds_toArray, List.set_cons_zero, List.set_cons_succ]
            refine wpAnyH_take (i := 1) (v := ?v502) rfl (by kernel_rfl) (by kernel_rfl) (by kernel_rfl) (fun _ _ _ h => h) (Or.inl ⟨by rfl, ?hy502⟩) (by assumption) ?rest502
            case hy502 => (intro w hSw; (try dsimp only at hSw); go_simp; try (with_reducible rfl))
            try simp only [Act.put, List.setIfInBounds_toArray, List.set_cons_zero, List.set_cons_succ]
            refine wpAnyH_take (i := 2) (v := ?v503) rfl (by kernel_rfl) (by kernel_rfl) (by kernel_rfl) (fun _ _ _ h => h) (Or.inl ⟨by rfl, ?hy503⟩) (by assumption) ?rest503
            case hy503 => (intro w hSw; (try dsimp only at hSw); go_simp; try (with_reducible rfl))
            try simp only [Act.put, List.setIfInBounds_toArray, List.set_cons_zero, List.set_cons_succ]
            refine wpAnyH_take (i := 3) (v := ?v504) rfl (by kernel_rfl) (by kernel_rfl) (by kernel_rfl) (fun _ _ _ h => h) (Or.inl ⟨by rfl, ?hy504⟩) (by assumption) ?rest504
            case hy504 => (intro w hSw; (try dsimp only at hSw); go_simp; try (with_reducible rfl))
            try simp only [Act.put, List.setIfInBounds_toArray, List.set_cons_zero, List.set_cons_succ]
            refine wpAnyH_take (i := 4) (v := ?v505) rfl (by kernel_rfl) (by kernel_rfl) (by kernel_rfl) (fun _ _ _ h => h) (Or.inl ⟨by rfl, ?hy505⟩) (by assumption) ?rest505
            case hy505 => (intro w hSw; (try dsimp only at hSw); go_simp; try (with_reducible rfl))
            try simp only [Act.put, List.setIfInBounds_toArray, List.set_cons_zero, List.set_cons_succ]
            refine wpAnyH_take (i := 6) (v := ?v506) rfl (by kernel_rfl) (by kernel_rfl) (by kernel_rfl) (fun _ _ _ h => h) (Or.inl ⟨by rfl, ?hy506⟩) (by assumption) ?rest506
            case hy506 => (intro w hSw; (try dsimp only at hSw); go_simp; try (with_reducible rfl))
            try simp only [Act.put, List.setIfInBounds_toArray, List.set_cons_zero, List.set_cons_succ]
            refine wpAnyH_take (i := 7) (v := ?v507) rfl (by kernel_rfl) (by kernel_rfl) (by kernel_rfl) (fun _ _ _ h => h) (Or.inl ⟨by rfl, ?hy507⟩) (by assumption) ?rest507
            case hy507 => (intro w hSw; (try dsimp only at hSw); go_simp; try (with_reducible rfl))
            try simp only [Act.put, List.setIfInBounds_toArray, List.set_cons_zero, List.set_cons_succ]
            refine wpAnyH_take (i := 8) (v := ?v508) rfl (by kernel_rfl) (by kernel_rfl) (by kernel_rfl) (fun _ _ _ h => h) (Or.inl ⟨by rfl, ?hy508⟩) (by assumption) ?rest508
            case hy508 => (intro w hSw; (try dsimp only at hSw); go_simp; try (with_reducible rfl))
            try simp only [Act.put, List.setIfInBounds_toArray, List.set_cons_zero, List.set_cons_succ]
            refine wpAnyH_take (i := 9) (v := ?v509) rfl (by kernel_rfl) (by kernel_rfl) (by kernel_rfl) (fun _ _ _ h => h) (Or.inl ⟨by rfl, ?hy509⟩) (by assumption) ?rest509
            case hy509 => (intro w hSw; (try dsimp only at hSw); go_simp; try (with_reducible rfl))
            try simp only [Act.put, List.setIfInBounds_toArray, List.set_cons_zero, List.set_cons_succ]
            refine wpAnyH_take (i := 10) (v := ?v510) rfl (by kernel_rfl) (by kernel_rfl) (by kernel_rfl) (fun _ _ _ h => h) (Or.inl ⟨by rfl, ?hy510⟩) (by assumption) ?rest510
            case hy510 => (intro w hSw; (try dsimp only at hSw); go_simp; try (with_reducible rfl))
            try simp only [Act.put, List.setIfInBounds_toArray, List.set_cons_zero, List.set_cons_succ]
            refine wpAnyH_ready (rs := [5]) (by kernel_rfl) (by simp) ?_
            refine AllReadyH.cons rfl (fun K hK => ?_) AllReadyH.nil
            go_simp
            refine hK.out _ _ ?_ (fun hHeld => ?_)
            · exact c1
            clear hK K
            try simp only [Act.put, List.setIfInBounds_toArray, List.set_cons_zero, List.set_cons_succ]
            refine wpAnyH_take (i := 11) (v := ?v511) rfl (by kernel_rfl) (by kernel_rfl) (by kernel_rfl) (fun _ _ _ h => h) (Or.inl ⟨by rfl, ?hy511⟩) (by assumption) ?rest511
            case hy511 => (intro w hSw; (try dsimp only at hSw); go_simp; try (with_reducible rfl))
            try simp only [Act.put, List.setIfInBounds_toArray, List.set_cons_zero, List.set_cons_succ]
            refine wpAnyH_take (i := 12) (v := ?v512) rfl (by kernel_rfl) (by kernel_rfl) (by kernel_rfl) (fun _ _ _ h => h) (Or.inl ⟨by rfl, ?hy512⟩) (by assumption) ?rest512
            case hy512 => (intro w hSw; (try dsimp only at hSw); go_simp; try (with_reducible rfl))
            try simp only [Act.put, List.setIfInBounds_toArray, List.set_cons_zero, List.set_cons_succ]
            refine wpAnyH_ready (rs := [13]) (by kernel_rfl) (by simp) ?_
            refine AllReadyH.cons rfl (fun K hK => ?_) AllReadyH.nil
            go_simp
            refine hK.out _ _ ?_ (fun hHeld => ?_)
            · rw [HMX.out]; exact (World.cell?_setCell_other _ _ _ _ (by simp <;> omega)).trans c1
            clear hK K
            try simp only [Act.put, List.setIfInBounds_toArray, List.set_cons_zero, List.set_cons_succ]
            refine wpAnyH_done (by kernel_rfl) ?_ _
            refine NoPanic.normal ?_
            rw [HMX.out]
            go_wp2_with fail
            exact ⟨⟨i + 1, by omega, by go_num, Lib.hid (by rw [HD1.out]; exact HB2.out.drew), Lib.hid (below_drews HE2.out 1)⟩, by simp [intOf]; omega⟩
          · have hd : dpV l M k (i + 1) = dpV l M k i := by rw [dpV, if_neg ha]
            have haf : allL (cutL l i (k - i)) M = false := by simpa using ha
            have hb3 := HB.out
            rw [← hd] at hb3
            have HB3 := Lib.hid hb3
            rw [haf]
            clear ha haf hd hb3 HB
            go_wp2_with fail
            exact ⟨⟨i + 1, by omega, by go_num, HB3, HE⟩, by simp [intOf]; omega⟩
        · obtain rfl : i = k := by omega
          have hb3 := HB.out
          rw [HDE.out, bestR_next] at hb3
          have HB3 := Lib.hid hb3
          clear hb3 HB
          go_wp2_with fail
          exact ⟨⟨i + 1, by omega, by omega, by go_num, HB3, HE⟩, by simp [intOf]; omega⟩
    · obtain rfl : k = N + 1 := by omega
      have c0 : wr.cell? ⟨w.heap.size, N, none⟩ = some (.int .i64 ((gsV l M N).2 : Int)) := by
        rw [HB.out.cell, bestR_at (by omega)]
        unfold bestF
        rw [if_pos (by omega)]
      have q0 : (0 : Int) ≤ (N : Int) := by omega
      have q1 : (N : Int) < (N : Int) + 1 := by omega
      have q2 : N < N + 1 := by omega
      have hk3 : ¬ ((N + 1 : Nat) : Int) ≤ (N : Int) := by omega
      go_wp2_with fail
      go_ret
      exact ⟨by rw [HFV.out]; rfl, HE.out⟩
end Go.Proofs.Ytgongcbbbhdjeaa
