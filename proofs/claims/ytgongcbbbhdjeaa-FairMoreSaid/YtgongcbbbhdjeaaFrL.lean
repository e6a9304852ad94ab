
/-
  Least: the least number within which picks are fair.
-/
import Derived.Test.YtgongcbbbhdjeaaFrA
set_option linter.unusedVariables false
set_option linter.unusedSimpArgs false
namespace Go.Proofs.Ytgongcbbbhdjeaa
open Go.RowKit Go.Shelf Plain
attribute [local go_sem] Oper.semAt_some

/-- Where the loops of Least stand. -/
structure LeI (w : World) (A : Option Addr) (N c M : Nat) (s : (Int → Option Nat) × Nat) (W : World) : Prop where
  b0 : Blk W w.heap.size 22 #[.slice A N c]
  b1 : Blk W (w.heap.size + 1) 3 #[.int .i64 (s.2 : Int)]
  mp : ∃ n, IsMN W (w.heap.size + 1 + 1) s.1 n
  b3 : Blk W (w.heap.size + 1 + 1 + 1) 37 #[.map (some (w.heap.size + 1 + 1))]
  b4 : Blk W (w.heap.size + 1 + 1 + 1 + 1) 22 #[.slice A N c]
  b5 : Blk W (w.heap.size + 1 + 1 + 1 + 1 + 1) 3 #[.int .i64 (M : Int)]
  be : Below w.heap.size w W
theorem LeI.put {w W W' : World} {A : Option Addr} {N c M : Nat} {s : (Int → Option Nat) × Nat} (h : LeI w A N c M s W) (hf : Fr (fun k => w.heap.size + 6 ≤ k) W W') : LeI w A N c M s W' := by
  obtain ⟨n, hm⟩ := h.mp
  exact ⟨hf.blk h.b0 (by omega), hf.blk h.b1 (by omega), ⟨n, hm.fr hf (by omega)⟩, hf.blk h.b3 (by omega), hf.blk h.b4 (by omega), hf.blk h.b5 (by omega), h.be.trans (hf.below h.be.size (fun i hi => by omega))⟩
/-- A number is noted: the longest. -/
theorem LeI.long {w W : World} {A : Option Addr} {N c M : Nat} {s : (Int → Option Nat) × Nat} (h : LeI w A N c M s W) (g : Nat) (x : Int) (hx : x = (g : Int)) :
    LeI w A N c M (s.1, g) (W.setCell ⟨w.heap.size + 1, 0, none⟩ (.int .i64 x)) := by
  subst hx
  obtain ⟨n, hm⟩ := h.mp
  have hf : Fr (fun i => i = w.heap.size + 1) W (W.setCell ⟨w.heap.size + 1, 0, none⟩ (.int .i64 (g : Int))) := (Fr.refl (fun i => i = w.heap.size + 1) W).setCell (p := ⟨w.heap.size + 1, 0, none⟩) (.inl rfl) _
  refine ⟨hf.blk h.b0 (by omega), ?_, ⟨n, hm.fr hf (by omega)⟩, hf.blk h.b3 (by omega), hf.blk h.b4 (by omega), hf.blk h.b5 (by omega), h.be.trans (hf.below h.be.size (fun i hi => by omega))⟩
  have := h.b1.set_ 0 (.int .i64 (g : Int))
  simpa using this
theorem zero_intF (w : World) : (zeroValue 3).run Try.prog w = .ok (.int .i64 0) w := by kernel_rfl
theorem under_map : Try.prog.underlying 37 = some (.map 3 3) := Try.underlying37
theorem under_int : Try.prog.underlying 3 = some (.int .i64) := Try.underlying3
theorem LeI.look {w W : World} {A : Option Addr} {N c M : Nat} {s : (Int → Option Nat) × Nat} (h : LeI w A N c M s W) (k : Int) :
    (Instr.lookup 37 (.map (some (w.heap.size + 1 + 1))) (.int .i64 k) false).run Try.prog W = .ok (.int .i64 (((s.1 k).getD 0 : Nat) : Int)) W := by
  obtain ⟨n, hm⟩ := h.mp
  exact hm.look under_map under_int (zero_intF W) k
theorem LeI.note {w W : World} {A : Option Addr} {N c M : Nat} {s : (Int → Option Nat) × Nat} (h : LeI w A N c M s W) (k : Int) (x : Nat) :
    ∃ W', (Instr.mapUpdate 37 (.map (some (w.heap.size + 1 + 1))) (.int .i64 k) (.int .i64 ((x : Int) + 1))).run Try.prog W = .ok () W' ∧ LeI w A N c M (updN s.1 k (some (x + 1)), s.2) W' ∧ Fr (fun i => i = w.heap.size + 1 + 1) W W' := by
  obtain ⟨n, hm⟩ := h.mp
  obtain ⟨W', h1, h2, h3, h4⟩ := hm.put under_map under_int k (x + 1)
  refine ⟨W', by simpa using h1, ⟨h3.blk h.b0 (by omega), h3.blk h.b1 (by omega), ⟨_, h2⟩, h3.blk h.b3 (by omega), h3.blk h.b4 (by omega), h3.blk h.b5 (by omega), h.be.trans (h3.below h.be.size (fun i hi => by omega))⟩, h3⟩
theorem Plain.lstep_eq (l : List Int) (s : (Int → Option Nat) × Nat) (x : Nat) : lstep l s x = (updN s.1 (gi l x) (some (x + 1)), max s.2 (x - (s.1 (gi l x)).getD 0)) := rfl
theorem keeps_fr {B : Nat} {S : Nat → Prop} {W W' : World} (h : Fr S W W') (hS : ∀ i, S i → i < B) : KeepsFrom B W W' :=
  ⟨h.size, fun k o hk ho _ => (h.block k (Array.getElem?_eq_some_iff.1 ho).1 (fun e => by have := hS k e; omega)).trans ho⟩

set_option maxRecDepth 100000 in
set_option maxHeartbeats 4000000 in
theorem least_any (w : World) (BB : Nat) (A : Option Addr) (N c : Nat) (l : List Int) (hr : Reads w BB 1 A N (l.map EnI)) (hl : l.length = N) (hN : N ≤ 1000000) (hBB : BB ≤ w.heap.size) (n : Int) (h1 : -9223372036854775808 ≤ n) (h2 : n ≤ 9223372036854775807) :
    Calls Try.prog 11 #[.slice A N c, .int .i64 n] w fun e w' => e = .returned (.int .i64 (leastV l (manyV n) : Int)) ∧ Below w.heap.size w w' := by
  refine (callsIn_wide (n := 3)).1 ?_
  refine callsIn_of_wp_marks Try.func11 rfl trivial ?_ rfl
  simp only [Try.ntmps11, List.size_toArray, List.length_cons, List.length_nil, Nat.reduceAdd, Nat.reduceSub, Array.replicate_succ, Array.replicate_zero, List.push_toArray, List.append_toArray, List.nil_append, List.cons_append]
  have HR := Lib.hid hr; have HL := Lib.hid hl
  have hw := fun W => within_any n W h1 h2
  have HW := Lib.hid hw
  have hmk := fun W => run_makeMap (P := Try.prog) 37 W
  clear hr hl hw
  gi_wp2_with fail
  refine ⟨trivial, (callsIn_wide.2 (places_any _ A N c n h1 h2)).mono ?_⟩
  rintro e w1 ⟨rfl, rfl⟩
  gi_wp2_with fail
  have hM1 := manyV_pos n
  have hM2 := manyV_le n
  have hI0 : LeI w A N c (manyV n) (lfold l []) ((((((w.alloc (.cells #[.slice A N c] 22)).alloc (.cells #[.int .i64 0] 3)).alloc (.map #[] 0)).alloc (.cells #[.map (some (w.heap.size + 1 + 1))] 37)).alloc (.cells #[.slice A N c] 22)).alloc (.cells #[.int .i64 (manyV n : Int)] 3)) := by
    have q0 := Blk.new w 22 #[.slice A N c]
    have q1 := Blk.new (w.alloc (.cells #[.slice A N c] 22)) 3 #[.int .i64 0]
    have q2 := IsMN.new ((w.alloc (.cells #[.slice A N c] 22)).alloc (.cells #[.int .i64 0] 3))
    have q3 := Blk.new (((w.alloc (.cells #[.slice A N c] 22)).alloc (.cells #[.int .i64 0] 3)).alloc (.map #[] 0)) 37 #[.map (some (w.heap.size + 1 + 1))]
    have q4 := Blk.new ((((w.alloc (.cells #[.slice A N c] 22)).alloc (.cells #[.int .i64 0] 3)).alloc (.map #[] 0)).alloc (.cells #[.map (some (w.heap.size + 1 + 1))] 37)) 22 #[.slice A N c]
    have q5 := Blk.new (((((w.alloc (.cells #[.slice A N c] 22)).alloc (.cells #[.int .i64 0] 3)).alloc (.map #[] 0)).alloc (.cells #[.map (some (w.heap.size + 1 + 1))] 37)).alloc (.cells #[.slice A N c] 22)) 3 #[.int .i64 (manyV n : Int)]
    simp only [World.size_alloc] at q1 q2 q3 q4 q5
    exact ⟨((((q0.alloc _).alloc _).alloc _).alloc _).alloc _, (((q1.alloc _).alloc _).alloc _).alloc _, ⟨0, q2.fr ((((Fr.refl (fun _ => False) _).alloc _).alloc _).alloc _) (fun h => h)⟩, (q3.alloc _).alloc _, q4.alloc _, q5,
      ((((((Below.refl _ w).alloc (Nat.le_refl _) _).alloc (by simp) _).alloc (by simp; omega) _).alloc (by simp; omega) _).alloc (by simp; omega) _).alloc (by simp; omega) _⟩
  have hVs : ((((((w.alloc (.cells #[.slice A N c] 22)).alloc (.cells #[.int .i64 0] 3)).alloc (.map #[] 0)).alloc (.cells #[.map (some (w.heap.size + 1 + 1))] 37)).alloc (.cells #[.slice A N c] 22)).alloc (.cells #[.int .i64 (manyV n : Int)] 3)).heap.size = w.heap.size + 6 := by simp
  generalize ((((((w.alloc (.cells #[.slice A N c] 22)).alloc (.cells #[.int .i64 0] 3)).alloc (.map #[] 0)).alloc (.cells #[.map (some (w.heap.size + 1 + 1))] 37)).alloc (.cells #[.slice A N c] 22)).alloc (.cells #[.int .i64 (manyV n : Int)] 3)) = V at hI0 hVs ⊢
  refine range_toldF (n := 3) (by omega) (gf := 32) (lb := #[.pointer (some ⟨w.heap.size + 1 + 1 + 1 + 1, 0, none⟩), .pointer (some ⟨w.heap.size + 1 + 1 + 1 + 1 + 1, 0, none⟩)]) rfl (enters_of Try.func32 (by kernel_rfl) rfl) (fun x : Nat => #[.int .i64 (x : Int)]) (fun _ => rfl)
    (fun pre => LeI w A N c (manyV n) (lfold l pre)) (fun pre W k o o' hI hk ho hc => hI.put ((putObj_frF (w := V) W k o' (by omega)).mono (fun i _ h => by omega))) (fun pre W o hI => hI.put ((alloc_frF (w := V) W o).mono (fun i _ h => by omega))) hI0
    (fun x => { tmps := #[.slice A N c, .int .i64 n, .pointer (some ⟨w.heap.size, 0, none⟩), undef, .int .i64 0, .pointer (some ⟨w.heap.size + 1, 0, none⟩), .pointer (some ⟨w.heap.size + 1 + 1 + 1, 0, none⟩), .int .i64 (x : Int), undef, undef, .map (some (w.heap.size + 1 + 1)), .slice A N c, .int .i64 n, .func (.func 32) #[] #[.pointer (some ⟨w.heap.size + 1 + 1 + 1 + 1, 0, none⟩), .pointer (some ⟨w.heap.size + 1 + 1 + 1 + 1 + 1, 0, none⟩)], .int .i64 (x : Int), undef, undef, undef, undef, undef, undef, undef, undef, undef, undef, undef, undef, undef, undef, undef, undef, undef, undef, undef, undef, undef, undef, undef, undef, undef, undef, undef, undef, undef, undef, undef], defers := [] }) ?assign
    (fun xs => xs = placesV l (manyV n) N) (fun pre x => x < N ∧ isW (manyV n) (gi l x) = true ∧ pre = placesV l (manyV n) x) ?hit ?body ?done
  case assign =>
    intro lq x W K hK
    gi_wp2
    exact hK
  case hit =>
    intro lq J W hJI hJ0 hY
    refine (places_in 2 (by omega) lq _ _ A N c (manyV n) l HL.out (by omega) J (fun _ _ => False) (fun pre W hJ => ?_) (fun pre x W hJ hv => (hY pre x W hJ hv).mono fun e W' h => .inl h) W hJ0).mono ?_
    · have hI := hJI pre W hJ
      exact ⟨(hI.b4.cell 0).trans rfl, (hI.b5.cell 0).trans rfl, BB, HR.out.below (hI.be.mono hBB)⟩
    · rintro e W' ⟨h1, h2 | ⟨k, _, h2⟩⟩
      · exact ⟨h1, _, rfl, h2⟩
      · exact h2.elim
  case body =>
    rintro lq pre x W hI ⟨hx, hwk, hpre⟩
    have hinv := linv_of l (manyV n) x (by have := HL.out; omega)
    rw [← hpre] at hinv
    have hle := hinv.le (gi l x)
    obtain ⟨ad, v, rfl, hab, hv, hcx0⟩ := HR.out.num hx
    have hcx := (hI.be.cell (p := ad.add x) (by rw [block_of_add]; omega)).trans hcx0
    have hgx : gi l x = v := by unfold gi; rw [hv]; rfl
    have hsnoc := lfold_snoc l pre x
    rw [lstep_eq, hgx] at hsnoc
    rw [hgx] at hle
    have c0 : W.cell? ⟨w.heap.size, 0, none⟩ = some (.slice (some ad) N c) := (hI.b0.cell 0).trans rfl
    have c1 : W.cell? ⟨w.heap.size + 1, 0, none⟩ = some (.int .i64 ((lfold l pre).2 : Int)) := (hI.b1.cell 0).trans rfl
    have z1 : W.frozen? ⟨w.heap.size + 1, 0, none⟩ = false := hI.b1.frozen 0
    have c3 : W.cell? ⟨w.heap.size + 1 + 1 + 1, 0, none⟩ = some (.map (some (w.heap.size + 1 + 1))) := (hI.b3.cell 0).trans rfl
    have hlk := hI.look v
    have hmax := max2_int ((lfold l pre).2 : Int) ((x : Int) - (((lfold l pre).1 v).getD 0 : Nat))
    have hI1 := hI.long (max (lfold l pre).2 (x - ((lfold l pre).1 v).getD 0)) (max ((lfold l pre).2 : Int) ((x : Int) - (((lfold l pre).1 v).getD 0 : Nat))) (by omega)
    obtain ⟨W2, hput, hI2, hf2⟩ := hI1.note v x
    rw [← hsnoc] at hI2
    have hf1 : Fr (fun i => i = w.heap.size + 1 ∨ i = w.heap.size + 1 + 1) W W2 :=
      (((Fr.refl (fun i => i = w.heap.size + 1) W).setCell (p := ⟨w.heap.size + 1, 0, none⟩) (.inl rfl) _).mono (fun i _ h => .inl h)).trans hf2 (fun i _ h => .inr h)
    have hkeep : KeepsFrom V.heap.size W W2 := keeps_fr hf1 (fun i hi => by omega)
    have c3' := (hI1.b3.cell 0).trans rfl
    have HI2 := Lib.hid hI2; have HK := Lib.hid hkeep
    generalize ((lfold l pre).1 v).getD 0 = e0 at *
    generalize (lfold l pre).2 = g0 at *
    clear hI hI0 hI1 hI2 hinv hsnoc hv hcx0 hpre hf1 hf2 hkeep hgx hwk
    have q0 : (0 : Int) ≤ (x : Int) := by omega
    have q1 : (x : Int) < (N : Int) := by omega
    gi_wp2
    exact ⟨hVs ▸ HK.out, HI2.out⟩
  case done =>
    rintro D xs W hD rfl hI hK
    have hinv := linv_of l (manyV n) N (by have := HL.out; omega)
    have hlong : leastV l (manyV n) = ltail N (lfold l (placesV l (manyV n) N)) (manyV n) + 1 := by
      unfold leastV longV
      rw [HL.out]
    obtain ⟨s, hs⟩ : ∃ s, s = lfold l (placesV l (manyV n) N) := ⟨_, rfl⟩
    rw [← hs] at hI hinv hlong
    have hll := longV_le l (manyV n) hM1
    have hlN := HL.out
    obtain ⟨M, hM⟩ : ∃ M, M = manyV n := ⟨_, rfl⟩
    have hres : (.int .i64 (leastV l (manyV n) : Int) : Value) = .int .i64 ((ltail N s M : Int) + 1) := by rw [hlong, hM]; rfl
    have hlt0 : ltail N s M ≤ 1000000 := by rw [hM]; unfold leastV at hlong; omega
    have HRES := Lib.hid hres
    rw [← hM] at hI hinv hM1 hM2 HW
    have hle := hinv.le
    have HI0 := Lib.hid hI; have HK := Lib.hid hK; have HLE := Lib.hid hle
    clear hI hinv hI0 hlong hll hres hs hK hle hM
    gi_wp2
    refine ⟨trivial, (callsIn_wide.2 (HW.out _)).mono ?_⟩
    rintro e w' ⟨rfl, rfl⟩
    gi_wp2
    gi_loopw [32] (fun s32 wr => ∃ k : Nat, k ≤ M ∧ s32 = .int .i64 (k : Int) ∧ Hid (LeI w A N c M (s.1, ltail N s k) wr) ∧ Hid (Fr (fun i => i = w.heap.size + 1) w' wr)) (fun s32 _ => M - (intOf s32).toNat)
    case atStart => exact ⟨0, by omega, rfl, HI0, Lib.hid (Fr.refl _ _)⟩
    case round =>
      obtain ⟨k, hk, rfl, HI, HF⟩ := hrel
      have c0 : wr.cell? ⟨w.heap.size, 0, none⟩ = some (.slice A N c) := (HI.out.b0.cell 0).trans rfl
      have c1 : wr.cell? ⟨w.heap.size + 1, 0, none⟩ = some (.int .i64 (ltail N s k : Int)) := (HI.out.b1.cell 0).trans rfl
      have z1 : wr.frozen? ⟨w.heap.size + 1, 0, none⟩ = false := HI.out.b1.frozen 0
      have c3 : wr.cell? ⟨w.heap.size + 1 + 1 + 1, 0, none⟩ = some (.map (some (w.heap.size + 1 + 1))) := (HI.out.b3.cell 0).trans rfl
      have hlk := HI.out.look (k : Int)
      have hle := HLE.out (k : Int)
      simp only at hlk
      by_cases hlt : k < M
      · have hmax := max2_int (ltail N s k : Int) ((N : Int) - ((s.1 (k : Int)).getD 0 : Nat))
        have hI1 := HI.out.long (ltail N s (k + 1)) (max (ltail N s k : Int) ((N : Int) - ((s.1 (k : Int)).getD 0 : Nat))) (by rw [ltail]; omega)
        have hf1 := HF.out.trans ((Fr.refl (fun i => i = w.heap.size + 1) wr).setCell (p := ⟨w.heap.size + 1, 0, none⟩) (.inl rfl) (.int .i64 (max (ltail N s k : Int) ((N : Int) - ((s.1 (k : Int)).getD 0 : Nat))))) (fun _ _ h => h)
        have HI1 := Lib.hid hI1; have HF1 := Lib.hid hf1
        clear hI1 hf1
        generalize (s.1 (k : Int)).getD 0 = e0 at *
        gi_wp2
        exact ⟨⟨k + 1, by omega, by go_num, HI1, HF1⟩, by simp [intOf]; omega⟩
      · obtain rfl : k = M := by omega
        have hbe := HI.out.be
        have hkD : wr.heap[D]? = some (.deferred (some [])) := (HF.out.block D (Array.getElem?_eq_some_iff.1 HK.out).1 (by omega)).trans HK.out
        have HB := Lib.hid hbe; have HKD := Lib.hid hkD
        clear hbe hkD hlk c0 c3 z1 hle
        gi_wp2
        refine ⟨by simp, .inl ⟨_, _, rfl, run_takeDeferred HKD.out, ?_⟩⟩
        exact ⟨_, results_tmp rfl _ _ _, by rw [HRES.out]; rfl, HB.out.trans ((putObj_frF (w := V) _ D _ (by omega)).below HB.out.size (fun i hi => by omega))⟩

set_option maxHeartbeats 1000000 in
theorem fair_any (w : World) (BB : Nat) (A : Option Addr) (N c : Nat) (l : List Int) (hr : Reads w BB 1 A N (l.map EnI)) (hl : l.length = N) (hN : N ≤ 1000000) (hBB : BB ≤ w.heap.size) (n m : Int) (h1 : -9223372036854775808 ≤ n) (h2 : n ≤ 9223372036854775807) :
    Calls Try.prog 13 #[.slice A N c, .int .i64 n, .int .i64 m] w fun e w' => e = .returned (.bool (fairI l (manyV n) m)) ∧ Below w.heap.size w w' := by
  have hle := least_any w BB A N c l hr hl hN hBB n h1 h2
  have HL := Lib.hid hle
  unfold fairI
  rw [hl]
  clear hle hr hl
  go_enter Try.func13, Try.ntmps13
  by_cases hm : m < 1
  · rw [if_pos hm]
    by_cases h0 : N = 0
    · subst h0
      go_wp2_with fail
      go_ret
      exact ⟨rfl, Below.refl _ _⟩
    · have hb : ((N : Int) == 0) = false := by simpa using h0
      have hd : decide (N = 0) = false := by simpa using h0
      rw [hd]
      go_wp2_with fail
      go_ret
      exact ⟨rfl, Below.refl _ _⟩
  · rw [if_neg hm]
    go_wp2_with fail
    refine HL.out.mono ?_
    rintro e w1 ⟨rfl, hb⟩
    go_wp2_with fail
    go_ret
    exact ⟨rfl, hb⟩
theorem least_ex : leastV [0, 1, 0] (manyV 2) = 2 := by decide
set_option maxHeartbeats 1000000 in
theorem lives_fr (w : World) : Calls Try.prog 15 #[] w fun e w' => e = .returned (.bool true) ∧ Below w.heap.size w w' := by
  have h1 := fair_any _ _ _ 3 3 _ (reads_lit3 w 0 1 0 3) rfl (by omega) (by simp) 2 2 (by omega) (by omega)
  have h2 := fun W => least_any _ _ _ 3 3 _ (reads_lit3 W 0 1 0 3) rfl (by omega) (by simp) 2 (by omega) (by omega)
  have he : fairI [0, 1, 0] (manyV 2) 2 = true := by
    unfold fairI
    rw [least_ex]
    rfl
  rw [he] at h1
  simp only [least_ex] at h2
  have H1 := Lib.hid h1; have H2 := Lib.hid h2
  clear h1 h2 he
  go_enter Try.func15, Try.ntmps15
  go_wp2_with fail
  refine H1.out.mono ?_
  rintro e w1 ⟨rfl, hb1⟩
  have hz := hb1.size
  simp at hz
  have HB := Lib.hid (((Below.refl w.heap.size w).alloc (Nat.le_refl _) (.cells #[.int .i64 0, .int .i64 1, .int .i64 0] 3)).trans (hb1.mono (by simp)))
  clear hb1
  go_wp2_with fail
  refine (H2.out _).mono ?_
  rintro e w2 ⟨rfl, hb2⟩
  have HB2 := Lib.hid (HB.out.trans (((Below.refl w1.heap.size w1).alloc (Nat.le_refl _) (.cells #[.int .i64 0, .int .i64 1, .int .i64 0] 3)).trans (hb2.mono (by simp)) |>.mono (by omega)))
  clear hb2
  go_wp2_with fail
  go_ret
  exact ⟨rfl, HB2.out⟩
end Go.Proofs.Ytgongcbbbhdjeaa
