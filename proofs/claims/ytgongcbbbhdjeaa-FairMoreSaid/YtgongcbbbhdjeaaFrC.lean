
/-
  Counts: how often each worker is picked; Gap: the longest row without one. Of the program and of the document.
-/
import Derived.Test.YtgongcbbbhdjeaaFrT
import Derived.Test.YtgongcbbbhdjeaaFrH
set_option linter.unusedVariables false
set_option linter.unusedSimpArgs false
namespace Go.Proofs.Ytgongcbbbhdjeaa
open Go.RowKit Go.Shelf Plain
attribute [local go_sem] Oper.semAt_some

namespace Plain
/-- How often a worker is among the places that were told. -/
def cntV (l : List Int) (pre : List Nat) (v : Int) : Nat := pre.countP fun i => gi l i == v
theorem cntV_snoc (l : List Int) (pre : List Nat) (x : Nat) (v : Int) : cntV l (pre ++ [x]) v = cntV l pre v + (if gi l x = v then 1 else 0) := by
  unfold cntV
  rw [List.countP_append]
  simp [List.countP_cons]
theorem cntV_places (l : List Int) (M : Nat) (v : Nat) (hv : v < M) : ∀ k, k ≤ l.length → cntV l (placesV l M k) v = countV (l.take k) v := by
  intro k
  induction k with
  | zero => intro _; simp [placesV, cntV, countV]
  | succ k ih =>
    intro hk
    rw [countV_take (by omega), ← ih (by omega)]
    rcases hw : isW M (gi l k) with _ | _
    · rw [placesV_no hw, if_neg (fun e => by rw [e] at hw; simp [isW] at hw; omega)]
      rfl
    · rw [placesV_yes hw, cntV_snoc]
theorem cntV_le (l : List Int) (pre : List Nat) (v : Int) : cntV l pre v ≤ pre.length := List.countP_le_length
theorem placesV_len (l : List Int) (M k : Nat) : (placesV l M k).length ≤ k := by
  unfold placesV
  refine Nat.le_trans (List.length_filter_le _ _) ?_
  simp
theorem placesV_pre (l : List Int) (M : Nat) {k n : Nat} (h : k ≤ n) : ∃ r, placesV l M n = placesV l M k ++ r := by
  induction n with
  | zero =>
    obtain rfl : k = 0 := by omega
    exact ⟨[], by simp⟩
  | succ n ih =>
    rcases Nat.lt_or_ge n k with h1 | h1
    · obtain rfl : k = n + 1 := by omega
      exact ⟨[], by simp⟩
    · obtain ⟨r, hr⟩ := ih h1
      rcases hw : isW M (gi l n) with _ | _
      · exact ⟨r, by rw [placesV_no hw, hr]⟩
      · exact ⟨r ++ [n], by rw [placesV_yes hw, hr, List.append_assoc]⟩
def cntRow (l : List Int) (M : Nat) (pre : List Nat) : List Value := (List.range M).map fun (v : Nat) => .int .i64 (cntV l pre (v : Int) : Int)
theorem cntRow_snoc {l : List Int} {M : Nat} {pre : List Nat} {x v : Nat} (hv : gi l x = (v : Int)) (hM : v < M) : (cntRow l M pre).set v (.int .i64 ((cntV l pre (v : Int) : Int) + 1)) = cntRow l M (pre ++ [x]) := by
  unfold cntRow
  apply List.ext_getElem
  · simp
  · intro i h1 h2
    simp at h1
    rw [List.getElem_set]
    simp only [List.getElem_map, List.getElem_range, cntV_snoc, hv]
    by_cases e : v = i
    · subst e
      simp
    · rw [if_neg e, if_neg (by omega)]
      rfl
end Plain
theorem many_any (n : Int) (w : World) :
    Calls Try.prog 17 #[.int .i64 n] w fun e w' => e = .returned (.int .i64 (manyV n : Int)) ∧ w' = w := by
  have hv : min (max n 1) 64 = (manyV n : Int) := by unfold manyV; omega
  have hmax := max2_int n 1
  have hmin := min2_int (max n 1) 64
  rw [hv] at hmin
  go_enter Try.func17, Try.ntmps17
  go_wp2_with fail
  go_ret
  exact ⟨rfl, rfl⟩
theorem made_ints (M : Nat) (hM : M ≤ 2000000) (W : World) : (Instr.makeSlice 22 (.int .i64 (M : Int)) (.int .i64 (M : Int))).run Try.prog W = .ok (.slice (some ⟨W.heap.size, 0, none⟩) M M) (W.alloc (.cells (Array.replicate M (.int .i64 0)) 3)) := by
  obtain ⟨i0, hi0, hz0, hz1, hz2⟩ := info_parts info_int
  have h := run_makeSlice (P := Try.prog) W 22 3 i0 (.int .i64 0) Try.underlying22 hi0 hz0 .i64 .i64 (M : Int) (M : Int) (by omega) (by omega) (by rw [hz1]; omega) (by rw [hz2]; omega) (by omega)
  rw [h, hz1]
  have e : madeCells (Value.int .i64 0).cells ((M : Int).toNat * 1) = Array.replicate M (.int .i64 0) := by
    apply Array.ext'
    have := made_one (.int .i64 0) M
    simpa [Value.cells] using this
  rw [e]
  simp

/-- Where the loop of Counts stands. -/
structure CoI (w : World) (A : Option Addr) (N c M : Nat) (l : List Int) (pre : List Nat) (W : World) : Prop where
  b0 : Blk W w.heap.size 22 #[.slice A N c]
  b1 : Blk W (w.heap.size + 1) 3 (cntRow l M pre).toArray
  b2 : Blk W (w.heap.size + 1 + 1) 22 #[.slice (some ⟨w.heap.size + 1, 0, none⟩) M M]
  b3 : Blk W (w.heap.size + 1 + 1 + 1) 22 #[.slice A N c]
  b4 : Blk W (w.heap.size + 1 + 1 + 1 + 1) 3 #[.int .i64 (M : Int)]
  be : Below w.heap.size w W
theorem CoI.put {w W W' : World} {A : Option Addr} {N c M : Nat} {l : List Int} {pre : List Nat} (h : CoI w A N c M l pre W) (hf : Fr (fun k => w.heap.size + 5 ≤ k) W W') : CoI w A N c M l pre W' :=
  ⟨hf.blk h.b0 (by omega), hf.blk h.b1 (by omega), hf.blk h.b2 (by omega), hf.blk h.b3 (by omega), hf.blk h.b4 (by omega), h.be.trans (hf.below h.be.size (fun i hi => by omega))⟩
theorem CoI.note {w W : World} {A : Option Addr} {N c M : Nat} {l : List Int} {pre : List Nat} (h : CoI w A N c M l pre W) {x v : Nat} (hv : gi l x = (v : Int)) (hM : v < M) :
    CoI w A N c M l (pre ++ [x]) (W.setCell ⟨w.heap.size + 1, v, none⟩ (.int .i64 ((cntV l pre (v : Int) : Int) + 1))) ∧ Fr (fun i => i = w.heap.size + 1) W (W.setCell ⟨w.heap.size + 1, v, none⟩ (.int .i64 ((cntV l pre (v : Int) : Int) + 1))) := by
  have hf : Fr (fun i => i = w.heap.size + 1) W (W.setCell ⟨w.heap.size + 1, v, none⟩ (.int .i64 ((cntV l pre (v : Int) : Int) + 1))) := (Fr.refl (fun i => i = w.heap.size + 1) W).setCell (p := ⟨w.heap.size + 1, v, none⟩) (.inl rfl) _
  refine ⟨⟨hf.blk h.b0 (by omega), ?_, hf.blk h.b2 (by omega), hf.blk h.b3 (by omega), hf.blk h.b4 (by omega), h.be.trans (hf.below h.be.size (fun i hi => by omega))⟩, hf⟩
  have := h.b1.set_ v (.int .i64 ((cntV l pre (v : Int) : Int) + 1))
  rw [List.setIfInBounds_toArray, cntRow_snoc hv hM] at this
  exact this

set_option maxRecDepth 100000 in
set_option maxHeartbeats 4000000 in
theorem counts_any (w : World) (BB : Nat) (A : Option Addr) (N c : Nat) (l : List Int) (hr : Reads w BB 1 A N (l.map EnI)) (hl : l.length = N) (hN : N ≤ 1000000) (hBB : BB ≤ w.heap.size) (n : Int) (h1 : -9223372036854775808 ≤ n) (h2 : n ≤ 9223372036854775807) :
    Calls Try.prog 16 #[.slice A N c, .int .i64 n] w fun e w' => ∃ b, e = .returned (.slice (some ⟨b, 0, none⟩) (manyV n) (manyV n)) ∧ Blk w' b 3 ((List.range (manyV n)).map fun (v : Nat) => .int .i64 (countV l (v : Int) : Int)).toArray ∧ Below w.heap.size w w' := by
  refine (callsIn_wide (n := 3)).1 ?_
  refine callsIn_of_wp_marks Try.func16 rfl trivial ?_ rfl
  simp only [Try.ntmps16, List.size_toArray, List.length_cons, List.length_nil, Nat.reduceAdd, Nat.reduceSub, Array.replicate_succ, Array.replicate_zero, List.push_toArray, List.append_toArray, List.nil_append, List.cons_append]
  have HR := Lib.hid hr; have HL := Lib.hid hl
  have hw := fun W => within_any n W h1 h2
  have HW := Lib.hid hw
  have hM1 := manyV_pos n
  have hM2 := manyV_le n
  have hmk := fun W => made_ints (manyV n) (by omega) W
  clear hr hl hw
  gi_wp2_with fail
  refine ⟨trivial, (callsIn_wide.2 (HW.out _)).mono ?_⟩
  rintro e w' ⟨rfl, rfl⟩
  gi_wp2_with fail
  refine ⟨trivial, (callsIn_wide.2 (places_any _ A N c n h1 h2)).mono ?_⟩
  rintro e w1 ⟨rfl, rfl⟩
  gi_wp2_with fail
  have hI0 : CoI w A N c (manyV n) l [] (((((w.alloc (.cells #[.slice A N c] 22)).alloc (.cells (Array.replicate (manyV n) (.int .i64 0)) 3)).alloc (.cells #[.slice (some ⟨w.heap.size + 1, 0, none⟩) (manyV n) (manyV n)] 22)).alloc (.cells #[.slice A N c] 22)).alloc (.cells #[.int .i64 (manyV n : Int)] 3)) := by
    have q0 := Blk.new w 22 #[.slice A N c]
    have q1 := Blk.new (w.alloc (.cells #[.slice A N c] 22)) 3 (Array.replicate (manyV n) (.int .i64 0))
    have q2 := Blk.new ((w.alloc (.cells #[.slice A N c] 22)).alloc (.cells (Array.replicate (manyV n) (.int .i64 0)) 3)) 22 #[.slice (some ⟨w.heap.size + 1, 0, none⟩) (manyV n) (manyV n)]
    have q3 := Blk.new (((w.alloc (.cells #[.slice A N c] 22)).alloc (.cells (Array.replicate (manyV n) (.int .i64 0)) 3)).alloc (.cells #[.slice (some ⟨w.heap.size + 1, 0, none⟩) (manyV n) (manyV n)] 22)) 22 #[.slice A N c]
    have q4 := Blk.new ((((w.alloc (.cells #[.slice A N c] 22)).alloc (.cells (Array.replicate (manyV n) (.int .i64 0)) 3)).alloc (.cells #[.slice (some ⟨w.heap.size + 1, 0, none⟩) (manyV n) (manyV n)] 22)).alloc (.cells #[.slice A N c] 22)) 3 #[.int .i64 (manyV n : Int)]
    simp only [World.size_alloc] at q1 q2 q3 q4
    have e1 : (cntRow l (manyV n) []).toArray = Array.replicate (manyV n) (.int .i64 0) := by
      unfold cntRow cntV
      apply Array.ext
      · simp
      · intro i _ _
        simp
    exact ⟨(((q0.alloc _).alloc _).alloc _).alloc _, by rw [e1]; exact ((q1.alloc _).alloc _).alloc _, (q2.alloc _).alloc _, q3.alloc _, q4,
      (((((Below.refl _ w).alloc (Nat.le_refl _) _).alloc (by simp) _).alloc (by simp; omega) _).alloc (by simp; omega) _).alloc (by simp; omega) _⟩
  have hVs : (((((w.alloc (.cells #[.slice A N c] 22)).alloc (.cells (Array.replicate (manyV n) (.int .i64 0)) 3)).alloc (.cells #[.slice (some ⟨w.heap.size + 1, 0, none⟩) (manyV n) (manyV n)] 22)).alloc (.cells #[.slice A N c] 22)).alloc (.cells #[.int .i64 (manyV n : Int)] 3)).heap.size = w.heap.size + 5 := by simp
  generalize (((((w.alloc (.cells #[.slice A N c] 22)).alloc (.cells (Array.replicate (manyV n) (.int .i64 0)) 3)).alloc (.cells #[.slice (some ⟨w.heap.size + 1, 0, none⟩) (manyV n) (manyV n)] 22)).alloc (.cells #[.slice A N c] 22)).alloc (.cells #[.int .i64 (manyV n : Int)] 3)) = V at hI0 hVs ⊢
  clear hmk
  refine range_toldF (n := 3) (by omega) (gf := 32) (lb := #[.pointer (some ⟨w.heap.size + 1 + 1 + 1, 0, none⟩), .pointer (some ⟨w.heap.size + 1 + 1 + 1 + 1, 0, none⟩)]) rfl (enters_of Try.func32 (by kernel_rfl) rfl) (fun x : Nat => #[.int .i64 (x : Int)]) (fun _ => rfl)
    (CoI w A N c (manyV n) l) (fun pre W k o o' hI hk ho hc => hI.put ((putObj_frF (w := V) W k o' (by omega)).mono (fun i _ h => by omega))) (fun pre W o hI => hI.put ((alloc_frF (w := V) W o).mono (fun i _ h => by omega))) hI0
    (fun x => { tmps := #[.slice A N c, .int .i64 n, .pointer (some ⟨w.heap.size, 0, none⟩), undef, .slice none 0 0, .pointer (some ⟨w.heap.size + 1 + 1, 0, none⟩), .int .i64 (x : Int), .int .i64 n, .int .i64 (manyV n : Int), .slice (some ⟨w.heap.size + 1, 0, none⟩) (manyV n) (manyV n), .slice A N c, .int .i64 n, .func (.func 32) #[] #[.pointer (some ⟨w.heap.size + 1 + 1 + 1, 0, none⟩), .pointer (some ⟨w.heap.size + 1 + 1 + 1 + 1, 0, none⟩)], .int .i64 (x : Int), undef, undef, undef, undef, undef, undef, undef, undef, undef, undef], defers := [] }) ?assign
    (fun xs => xs = placesV l (manyV n) N) (fun pre x => x < N ∧ isW (manyV n) (gi l x) = true ∧ pre = placesV l (manyV n) x) ?hit ?body ?done
  case assign =>
    intro lq x W K hK
    gi_wp2
    exact hK
  case hit =>
    intro lq J W hJI hJ0 hY
    refine (places_in 2 (by omega) lq _ _ A N c (manyV n) l HL.out (by omega) J (fun _ _ => False) (fun pre W hJ => ?_) (fun pre x W hJ hv => (hY pre x W hJ hv).mono fun e W' h => .inl h) W hJ0).mono ?_
    · have hI := hJI pre W hJ
      exact ⟨(hI.b3.cell 0).trans rfl, (hI.b4.cell 0).trans rfl, BB, HR.out.below (hI.be.mono hBB)⟩
    · rintro e W' ⟨h1, h2 | ⟨k, _, h2⟩⟩
      · exact ⟨h1, _, rfl, h2⟩
      · exact h2.elim
  case body =>
    rintro lq pre x W hI ⟨hx, hwk, hpre⟩
    have hpl := placesV_len l (manyV n) x
    rw [← hpre] at hpl
    obtain ⟨ad, v, rfl, hab, hv, hcx0⟩ := HR.out.num hx
    have hcx := (hI.be.cell (p := ad.add x) (by rw [block_of_add]; omega)).trans hcx0
    have hgx : gi l x = v := by unfold gi; rw [hv]; rfl
    rw [hgx] at hwk
    obtain ⟨g1, g2⟩ := isW_iff.1 hwk
    obtain ⟨v, rfl⟩ := Int.eq_ofNat_of_zero_le g1
    have hvM : v < manyV n := by omega
    have hcl := cntV_le l pre (v : Int)
    have c0 : W.cell? ⟨w.heap.size, 0, none⟩ = some (.slice (some ad) N c) := (hI.b0.cell 0).trans rfl
    have c2 : W.cell? ⟨w.heap.size + 1 + 1, 0, none⟩ = some (.slice (some ⟨w.heap.size + 1, 0, none⟩) (manyV n) (manyV n)) := (hI.b2.cell 0).trans rfl
    have c1 : W.cell? ⟨w.heap.size + 1, v, none⟩ = some (.int .i64 (cntV l pre (v : Int) : Int)) := by
      rw [hI.b1.cell]
      simp [cntRow, hvM]
    have z1 : W.frozen? ⟨w.heap.size + 1, v, none⟩ = false := hI.b1.frozen v
    obtain ⟨hI2, hf2⟩ := hI.note hgx hvM
    have hkeep := keeps_fr hf2 (B := V.heap.size) (fun i hi => by omega)
    have hblt : ad.block < w.heap.size := by omega
    have HI2 := Lib.hid hI2; have HK := Lib.hid hkeep; have HAB := Lib.hid hblt
    have hSc : W.drew.cell? ⟨w.heap.size, 0, none⟩ = some (.slice (some ad) N c) ∧ W.drew.cell? ⟨w.heap.size + 1 + 1, 0, none⟩ = some (.slice (some ⟨w.heap.size + 1, 0, none⟩) (manyV n) (manyV n)) ∧ W.drew.cell? (ad.add x) = some (.int .i64 (v : Int)) := ⟨c0, c2, hcx⟩
    have HSC := Lib.hid hSc
    clear hI hI0 hI2 hv hcx0 hpre hf2 hkeep hgx hwk hSc hab
    generalize manyV n = M at *
    generalize cntV l pre (v : Int) = g0 at *
    have q0 : (0 : Int) ≤ (x : Int) := by omega
    have q1 : (x : Int) < (N : Int) := by omega
    have hmix : Try.prog.follows .mixedOrders = true := by kernel_rfl
    have hw1 : IntKind.i64.wrap ((g0 : Int) + 1) = (g0 : Int) + 1 := IntWalk.i64_in _ (by omega)
    gi_wp2
    refine held_roundF (S := fun w' => w'.cell? ⟨w.heap.size, 0, none⟩ = some (.slice (some ad) N c) ∧ w'.cell? ⟨w.heap.size + 1 + 1, 0, none⟩ = some (.slice (some ⟨w.heap.size + 1, 0, none⟩) M M) ∧ w'.cell? (ad.add x) = some (.int .i64 (v : Int))) hmix (by kernel_rfl) HSC.out (fun hHeld => ?_)
    refine wpAnyH_take (i := 0) (v := ?v1) rfl (by kernel_rfl) (by kernel_rfl) (by kernel_rfl) (fun _ _ _ h => Exit.noConfusion h.1) (Or.inl ⟨by rfl, ?hy1⟩) (by assumption) ?rest1
    case hy1 => (intro w hSw; (try dsimp only at hSw); go_simp; try (with_reducible rfl))
    try simp only [Act.put, List.setIfInBounds_toArray, List.set_cons_zero, List.set_cons_succ]
    refine wpAnyH_take (i := 1) (v := ?v2) rfl (by kernel_rfl) (by kernel_rfl) (by kernel_rfl) (fun _ _ _ h => Exit.noConfusion h.1) (Or.inl ⟨by rfl, ?hy2⟩) (by assumption) ?rest2
    case hy2 => (intro w hSw; (try dsimp only at hSw); go_simp; try (with_reducible rfl))
    try simp only [Act.put, List.setIfInBounds_toArray, List.set_cons_zero, List.set_cons_succ]
    refine wpAnyH_take (i := 2) (v := ?v3) rfl (by kernel_rfl) (by kernel_rfl) (by kernel_rfl) (fun _ _ _ h => Exit.noConfusion h.1) (Or.inl ⟨by rfl, ?hy3⟩) (by assumption) ?rest3
    case hy3 => (intro w hSw; (try dsimp only at hSw); go_simp; try (with_reducible rfl))
    try simp only [Act.put, List.setIfInBounds_toArray, List.set_cons_zero, List.set_cons_succ]
    refine wpAnyH_take (i := 3) (v := ?v4) rfl (by kernel_rfl) (by kernel_rfl) (by kernel_rfl) (fun _ _ _ h => Exit.noConfusion h.1) (Or.inl ⟨by rfl, ?hy4⟩) (by assumption) ?rest4
    case hy4 => (intro w hSw; (try dsimp only at hSw); go_simp; try (with_reducible rfl))
    try simp only [Act.put, List.setIfInBounds_toArray, List.set_cons_zero, List.set_cons_succ]
    refine wpAnyH_take (i := 4) (v := ?v5) rfl (by kernel_rfl) (by kernel_rfl) (by kernel_rfl) (fun _ _ _ h => Exit.noConfusion h.1) (Or.inl ⟨by rfl, ?hy5⟩) (by assumption) ?rest5
    case hy5 => (intro w hSw; (try dsimp only at hSw); go_simp; try (with_reducible rfl))
    try simp only [Act.put, List.setIfInBounds_toArray, List.set_cons_zero, List.set_cons_succ]
    refine wpAnyH_take (i := 5) (v := ?v6) rfl (by kernel_rfl) (by kernel_rfl) (by kernel_rfl) (fun _ _ _ h => Exit.noConfusion h.1) (Or.inl ⟨by rfl, ?hy6⟩) (by assumption) ?rest6
    case hy6 => (intro w hSw; (try dsimp only at hSw); go_simp; try (with_reducible rfl))
    try simp only [Act.put, List.setIfInBounds_toArray, List.set_cons_zero, List.set_cons_succ]
    refine wpAnyH_ready (rs := [6]) (by kernel_rfl) (by simp) ?_
    refine AllReadyH.cons rfl (fun K hK => ?_) AllReadyH.nil
    go_simp
    refine hK.out _ _ ?_ (fun hHeld => ?_)
    · exact HSC.out
    clear hK K
    try simp only [Act.put, List.setIfInBounds_toArray, List.set_cons_zero, List.set_cons_succ]
    refine wpAnyH_take (i := 7) (v := ?v7) rfl (by kernel_rfl) (by kernel_rfl) (by kernel_rfl) (fun _ _ _ h => Exit.noConfusion h.1) (Or.inl ⟨by rfl, ?hy7⟩) (by assumption) ?rest7
    case hy7 => (intro w hSw; (try dsimp only at hSw); go_simp; try (with_reducible rfl))
    try simp only [Act.put, List.setIfInBounds_toArray, List.set_cons_zero, List.set_cons_succ]
    refine wpAnyH_take (i := 8) (v := ?v8) rfl (by kernel_rfl) (by kernel_rfl) (by kernel_rfl) (fun _ _ _ h => Exit.noConfusion h.1) (Or.inl ⟨by rfl, ?hy8⟩) (by assumption) ?rest8
    case hy8 => (intro w hSw; (try dsimp only at hSw); go_simp; try (with_reducible rfl))
    try simp only [Act.put, List.setIfInBounds_toArray, List.set_cons_zero, List.set_cons_succ]
    refine wpAnyH_ready (rs := [9]) (by kernel_rfl) (by simp) ?_
    refine AllReadyH.cons rfl (fun K hK => ?_) AllReadyH.nil
    go_simp
    refine hK.out _ _ ?_ (fun hHeld => ?_)
    · exact ⟨(World.cell?_setCell_far _ _ _ _ (by simp)).trans HSC.out.1, (World.cell?_setCell_far _ _ _ _ (by simp)).trans HSC.out.2.1, (World.cell?_setCell_far _ _ _ _ (by rw [block_of_add]; have := HAB.out; show w.heap.size + 1 ≠ _; omega)).trans HSC.out.2.2⟩
    clear hK K
    try simp only [Act.put, List.setIfInBounds_toArray, List.set_cons_zero, List.set_cons_succ]
    refine wpAnyH_done (by kernel_rfl) ?_ _
    refine ⟨rfl, ?_⟩
    have HKF := Lib.hid (show KeepsFrom V.heap.size W (W.setCell ⟨w.heap.size + 1, v, none⟩ (.int .i64 ((g0 : Int) + 1))).drew from ⟨HK.out.size, HK.out.same⟩)
    have HIF := Lib.hid (show CoI w (some ad) N c M l (pre ++ [x]) (W.setCell ⟨w.heap.size + 1, v, none⟩ (.int .i64 ((g0 : Int) + 1))).drew from ⟨HI2.out.b0, HI2.out.b1, HI2.out.b2, HI2.out.b3, HI2.out.b4, below_drews HI2.out.be 1⟩)
    gi_wp2
    exact ⟨hVs ▸ HKF.out, HIF.out⟩
  case done =>
    rintro D xs W hD rfl hI hK
    have e1 : cntRow l (manyV n) (placesV l (manyV n) N) = (List.range (manyV n)).map fun (v : Nat) => .int .i64 (countV l (v : Int) : Int) := by
      unfold cntRow
      refine List.map_congr_left fun v hv => ?_
      rw [cntV_places l (manyV n) v (List.mem_range.1 hv) N (by rw [HL.out]; exact Nat.le_refl _), ← HL.out, List.take_length]
    have hb1 := hI.b1
    rw [e1] at hb1
    have c2 : W.cell? ⟨w.heap.size + 1 + 1, 0, none⟩ = some (.slice (some ⟨w.heap.size + 1, 0, none⟩) (manyV n) (manyV n)) := (hI.b2.cell 0).trans rfl
    have hbe := hI.be
    have HB1 := Lib.hid hb1; have HB := Lib.hid hbe; have HK := Lib.hid hK
    clear hI hI0 hb1 hbe hK e1
    gi_wp2
    refine ⟨by simp, .inl ⟨_, _, rfl, run_takeDeferred HK.out, ?_⟩⟩
    exact ⟨_, results_tmp rfl _ _ _, ⟨_, rfl, (putObj_frF (w := V) W D _ (by omega)).blk HB1.out (by omega), HB.out.trans ((putObj_frF (w := V) _ D _ (by omega)).below HB.out.size (fun i hi => by omega))⟩⟩

set_option maxHeartbeats 2000000 in
theorem gap_any (w : World) (BB : Nat) (A : Option Addr) (N c : Nat) (l : List Int) (hr : Reads w BB 1 A N (l.map EnI)) (hl : l.length = N) (hN : N ≤ 1000000) (v : Int) :
    Calls Try.prog 19 #[.slice A N c, .int .i64 v] w fun e w' => e = .returned (.int .i64 (gapV l v : Int)) ∧ w' = w := by
  have HR := Lib.hid hr; have HL := Lib.hid hl
  clear hr hl
  go_enter Try.func19, Try.ntmps19
  go_wp2_with fail
  go_loopw [5, 6, 11] (fun s5 s6 s11 wr => ∃ k : Nat, k ≤ N ∧ s11 = .int .i64 (k : Int) ∧ s5 = .int .i64 ((gapS l v k).1 : Int) ∧ s6 = .int .i64 ((gapS l v k).2 : Int) ∧ w = wr) (fun _ _ s11 _ => N - (intOf s11).toNat)
  case atStart => exact ⟨0, by omega, rfl, by simp [gapS, gapF], by simp [gapS, gapF], rfl⟩
  case round =>
    obtain ⟨k, hk, rfl, rfl, rfl, rfl⟩ := hrel
    have hle := gapS_le l v k (by have := HL.out; omega)
    by_cases hlt : k < N
    · obtain ⟨ad, x, rfl, _, hx, hcx⟩ := HR.out.num hlt
      have hgx : gi l k = x := by unfold gi; rw [hx]; rfl
      have hs := gapS_succ (l := l) (w := v) (k := k) (by have := HL.out; omega)
      rw [hgx] at hs
      have q1 : (k : Int) < (N : Int) := by omega
      have q0 : (0 : Int) ≤ (k : Int) := by omega
      have HS := Lib.hid hs
      clear hx hgx hs
      generalize gapS l v k = s at *
      obtain ⟨g, m⟩ := s
      simp only at hle
      have hmax := max2_int (g : Int) ((m : Int) + 1)
      have hmax0 := max2_int (g : Int) 0
      by_cases he : x = v
      · subst he
        have hs := HS.out
        rw [if_pos rfl] at hs
        rw [show max (g : Int) 0 = (g : Int) by omega] at hmax0
        have HS2 := Lib.hid hs
        clear hs HS
        go_wp2_with fail
        exact ⟨⟨k + 1, by omega, by go_num, by rw [HS2.out], by rw [HS2.out]; rfl, by simp⟩, by simp [intOf]; omega⟩
      · have hs := HS.out
        rw [if_neg he] at hs
        have heb : (x == v) = false := by simpa using he
        have HS2 := Lib.hid hs
        clear hs HS
        go_wp2_with fail
        exact ⟨⟨k + 1, by omega, by go_num, by rw [HS2.out]; simp only; congr 1; omega, by rw [HS2.out]; go_num, by simp⟩, by simp [intOf]; omega⟩
    · obtain rfl : k = N := by omega
      have hg : gapV l v = (gapS l v k).1 := by unfold gapV; rw [HL.out]
      have HGG := Lib.hid hg
      clear hg
      go_wp2_with fail
      go_ret
      exact ⟨by rw [HGG.out]; rfl, rfl⟩

set_option maxHeartbeats 2000000 in
theorem refCount_any (w : World) (BB : Nat) (A : Option Addr) (N c : Nat) (l : List Int) (hr : Reads w BB 1 A N (l.map EnI)) (hl : l.length = N) (hN : N ≤ 1000000) (v : Int) :
    Calls Try.prog 18 #[.slice A N c, .int .i64 v] w fun e w' => e = .returned (.int .i64 (countV l v : Int)) ∧ w' = w := by
  have HR := Lib.hid hr; have HL := Lib.hid hl
  clear hr hl
  go_enter Try.func18, Try.ntmps18
  go_wp2_with fail
  go_loopw [5, 6] (fun s5 s6 wr => ∃ k : Nat, k ≤ N ∧ s6 = .int .i64 (k : Int) ∧ s5 = .int .i64 (countV (l.take k) v : Int) ∧ w = wr) (fun _ s6 _ => N - (intOf s6).toNat)
  case atStart => exact ⟨0, by omega, rfl, by simp [countV], rfl⟩
  case round =>
    obtain ⟨k, hk, rfl, rfl, rfl⟩ := hrel
    have hle : countV (l.take k) v ≤ k := Nat.le_trans List.countP_le_length (by simp; omega)
    by_cases hlt : k < N
    · obtain ⟨ad, x, rfl, _, hx, hcx⟩ := HR.out.num hlt
      have hgx : gi l k = x := by unfold gi; rw [hx]; rfl
      have hs := countV_take (l := l) (w := v) (k := k) (by have := HL.out; omega)
      rw [hgx] at hs
      have q1 : (k : Int) < (N : Int) := by omega
      have q0 : (0 : Int) ≤ (k : Int) := by omega
      have HS := Lib.hid hs
      clear hx hgx hs
      generalize countV (l.take k) v = g at *
      by_cases he : x = v
      · subst he
        have hs := HS.out
        rw [if_pos rfl] at hs
        have HS2 := Lib.hid hs
        clear hs HS
        go_wp2_with fail
        exact ⟨⟨k + 1, by omega, by go_num, by rw [HS2.out]; go_num, by simp⟩, by simp [intOf]; omega⟩
      · have hs := HS.out
        rw [if_neg he] at hs
        have heb : (x == v) = false := by simpa using he
        have HS2 := Lib.hid hs
        clear hs HS
        go_wp2_with fail
        exact ⟨⟨k + 1, by omega, by go_num, by rw [HS2.out]; rfl, by simp⟩, by simp [intOf]; omega⟩
    · obtain rfl : k = N := by omega
      have hg : countV l v = countV (l.take k) v := by rw [List.take_of_length_le (by rw [HL.out]; omega)]
      have HGG := Lib.hid hg
      clear hg
      go_wp2_with fail
      go_ret
      exact ⟨by rw [HGG.out]; rfl, rfl⟩

/-- Where the document's Gap stands: rows that begin ahead of i were looked at, and those from i on that are shorter than m. -/
structure Plain.GpI (l : List Int) (v : Int) (i m g : Nat) : Prop where
  is : ∃ a, a + g ≤ l.length ∧ Miss l v a g
  old : ∀ a n, a < i → a + n ≤ l.length → Miss l v a n → n ≤ g
  now : ∀ n, n < m → i + n ≤ l.length → Miss l v i n → n ≤ g
theorem Plain.GpI.step {l : List Int} {v : Int} {i m g : Nat} (h : GpI l v i m g) (hm : i + m ≤ l.length) : GpI l v i (m + 1) (if countV (cutL l i m) v = 0 then max g m else g) := by
  have hc : countV (cutL l i m) v = 0 ↔ Miss l v i m := by
    rw [countV_zero, mem_cutL]
    exact Classical.not_not
  by_cases e : countV (cutL l i m) v = 0
  · rw [if_pos e]
    refine ⟨?_, fun a n h1 h2 h3 => by have := h.old a n h1 h2 h3; omega, fun n h1 h2 h3 => ?_⟩
    · rcases Nat.lt_or_ge g m with h1 | h1
      · rw [Nat.max_eq_right (by omega)]
        exact ⟨i, hm, hc.1 e⟩
      · rw [Nat.max_eq_left h1]
        exact h.is
    · rcases Nat.lt_or_ge n m with h4 | h4
      · have := h.now n h4 h2 h3
        omega
      · omega
  · rw [if_neg e]
    refine ⟨h.is, h.old, fun n h1 h2 h3 => ?_⟩
    rcases Nat.lt_or_ge n m with h4 | h4
    · exact h.now n h4 h2 h3
    · obtain rfl : n = m := by omega
      exact absurd (hc.2 h3) e
theorem Plain.GpI.le {l : List Int} {v : Int} {i m g : Nat} (h : GpI l v i m g) : g ≤ l.length := by
  obtain ⟨a, h1, _⟩ := h.is
  omega
theorem Plain.GpI.next {l : List Int} {v : Int} {i m g : Nat} (h : GpI l v i m g) (hm : l.length < i + m) : GpI l v (i + 1) 1 g :=
  ⟨h.is, fun a n h1 h2 h3 => by
    rcases Nat.lt_or_ge a i with h4 | h4
    · exact h.old a n h4 h2 h3
    · obtain rfl : a = i := by omega
      exact h.now n (by omega) h2 h3, fun n h1 _ _ => by omega⟩
theorem Plain.GpI.end_ {l : List Int} {v : Int} {m g : Nat} (h : GpI l v l.length m g) : gapV l v = g :=
  (gapV_most l v).one ⟨h.is, fun n ⟨a, h1, h2⟩ => by
    rcases Nat.lt_or_ge a l.length with h3 | h3
    · exact h.old a n h3 h1 h2
    · omega⟩
set_option maxHeartbeats 4000000 in
theorem refGap_any (w : World) (BB : Nat) (A : Option Addr) (N c : Nat) (l : List Int) (hr : Reads w BB 1 A N (l.map EnI)) (hl : l.length = N) (hc : N ≤ c) (hN : N ≤ 1000000) (v : Int) :
    Calls Try.prog 20 #[.slice A N c, .int .i64 v] w fun e w' => e = .returned (.int .i64 (gapV l v : Int)) ∧ w' = w := by
  have hcnt : ∀ i m : Nat, i + m ≤ N → 0 < m → Calls Try.prog 18 #[.slice (A.map (·.add i)) m (c - i), .int .i64 v] w fun e w' => e = .returned (.int .i64 (countV (cutL l i m) v : Int)) ∧ w' = w := by
    intro i m hi h0
    have hcut := hr.cut (k := i) (cap := c) (by omega) hc
    rw [if_neg (by omega), Nat.mul_one, ← List.map_drop] at hcut
    have hfew := hcut.few (m := m) (by omega)
    exact refCount_any w BB _ m _ (cutL l i m) hfew (by unfold cutL; simp; omega) (by omega) v
  have HC := Lib.hid hcnt; have HL := Lib.hid hl
  clear hr hl hcnt
  go_enter Try.func20, Try.ntmps20
  go_wp2_with fail
  go_loopw [5, 6] (fun s5 s6 wr => ∃ i g : Nat, i ≤ N ∧ s6 = .int .i64 (i : Int) ∧ s5 = .int .i64 (g : Int) ∧ Hid (GpI l v i 1 g) ∧ w = wr) (fun _ s6 _ => N - (intOf s6).toNat)
  case atStart => exact ⟨0, 0, by omega, rfl, rfl, Lib.hid ⟨⟨0, by omega, fun j _ _ => by omega⟩, fun a n h _ _ => by omega, fun n h _ _ => by omega⟩, rfl⟩
  case round =>
    obtain ⟨i, g, hi, rfl, rfl, HG, rfl⟩ := hrel
    by_cases hlt : i < N
    · go_wp2_with fail
      go_loopw [5, 7] (fun s5 s7 wr => ∃ m g : Nat, 1 ≤ m ∧ i + m ≤ N + 1 ∧ s7 = .int .i64 ((i : Int) + (m : Int)) ∧ s5 = .int .i64 (g : Int) ∧ Hid (GpI l v i m g) ∧ w = wr) (fun _ s7 _ => N + 1 - (intOf s7).toNat)
      case atStart => exact ⟨1, g, by omega, by omega, by go_num, rfl, HG, rfl⟩
      case round =>
        clear HG
        obtain ⟨m, g, hm1, hm, rfl, rfl, HG, rfl⟩ := hrel
        have hgle := HG.out.le
        rw [HL.out] at hgle
        by_cases hlt2 : i + m ≤ N
        · have hcn := HC.out i m hlt2 (by omega)
          have hst := HG.out.step (m := m) (by rw [HL.out]; exact hlt2)
          have hmax := max2_int (g : Int) (m : Int)
          have q0 : (0 : Int) ≤ (i : Int) := by omega
          have q1 : (i : Int) ≤ (i : Int) + (m : Int) := by omega
          have q2 : (i : Int) + (m : Int) ≤ (c : Int) := by omega
          have q3 : (i : Int) + (m : Int) ≤ (N : Int) := by omega
          have hci : ¬ c = i := by omega
          have HCN := Lib.hid hcn; have HST := Lib.hid hst
          clear hcn hst
          go_wp2_with fail
          refine HCN.out.mono ?_
          rintro e w' ⟨rfl, rfl⟩
          by_cases hcz : countV (cutL l i m) v = 0
          · have hst := HST.out
            rw [if_pos hcz] at hst
            have HST2 := Lib.hid hst
            have hw2 : IntKind.i64.wrap ((i : Int) + (m : Int) - (i : Int)) = (m : Int) := by rw [IntKind.wrap_i64]; omega
            rw [hcz]
            clear hcz hst HCN HST
            go_wp2_with fail
            exact ⟨⟨m + 1, max g m, by omega, by omega, by go_num, by go_num, HST2, by simp⟩, by simp [intOf]; omega⟩
          · have hst := HST.out
            rw [if_neg hcz] at hst
            have HST2 := Lib.hid hst
            have hcb : ((countV (cutL l i m) v : Int) == 0) = false := by simpa using hcz
            clear hcz hst HCN HST
            go_wp2_with fail
            exact ⟨⟨m + 1, g, by omega, by omega, by go_num, rfl, HST2, by simp⟩, by simp [intOf]; omega⟩
        · have hnx := HG.out.next (by rw [HL.out]; omega)
          have HNX := Lib.hid hnx
          have q3 : ¬ (i : Int) + (m : Int) ≤ (N : Int) := by omega
          clear hnx
          go_wp2_with fail
          exact ⟨⟨i + 1, g, by omega, by go_num, rfl, HNX, by simp⟩, by simp [intOf]; omega⟩
    · obtain rfl : i = N := by omega
      have hg : gapV l v = g := by
        have := HG.out
        rw [← HL.out] at this
        exact this.end_
      have HGG := Lib.hid hg
      clear hg
      go_wp2_with fail
      go_ret
      exact ⟨by rw [HGG.out]; rfl, rfl⟩
end Go.Proofs.Ytgongcbbbhdjeaa
