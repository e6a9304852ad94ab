
/-
  The program's own answer of what stands at a place.
-/
import Derived.Test.YtkciedcfphhenaaMayB
set_option linter.unusedVariables false
set_option linter.unusedSimpArgs false
namespace Go.Proofs.Ytkciedcfphhenaa
open Go.RowKit Plain

/-- The instruction at a place. -/
def atP (p : PV) (f pc : Int) : Option IV := if f < 0 ∨ pc < 0 then none else (p.funcs[f.toNat]?).bind fun g => g.code[pc.toNat]?
def atV (x : Option IV) : Value := match x with
  | none => .tuple #[.agg #[.int .i64 0, .int .i64 0], .bool false]
  | some i => .tuple #[.agg #[.int .i64 i.op, .int .i64 i.a], .bool true]

set_option maxHeartbeats 4000000 in
set_option maxRecDepth 100000 in
theorem at_any (h : PH) (p : PV) (w : World) (B : Nat) (hr : RP w B h p) (hB : B ≤ w.heap.size) (hlen : Lens p) (f pc : Int) (hf : -9223372036854775808 ≤ f ∧ f ≤ 9223372036854775807) (hpc : -9223372036854775808 ≤ pc ∧ pc ≤ 9223372036854775807) :
    Calls Try.prog 88 #[.agg #[.slice h.fA p.funcs.length h.fc, .int .i64 p.mutexes, .slice h.cA p.conds.length h.cc, .slice h.sA p.semas.length h.sc, .slice h.hA p.chans.length h.hc, .slice h.xA p.choices.length h.xc, .int .i64 p.threads], .int .i64 f, .int .i64 pc] w
      fun e w' => e = .returned (atV (atP p f pc)) ∧ Below w.heap.size w w' := by
  have l1 := hlen.funcs
  have HLC := Lib.hid hlen.code
  obtain ⟨fA, fc, cA, cc, sA, sc, hA, hc, xA, xc⟩ := h
  have hrf : RF w B fA p.funcs.length fc p.funcs := hr.funcs
  have HRF := Lib.hid hrf
  clear hr hlen hrf
  have hend : ∀ cs ds u v, Below w.heap.size w ((((w.alloc (.cells cs 26)).alloc (.cells ds 57)).setCell ⟨w.heap.size + 1, 0, none⟩ u).setCell ⟨w.heap.size + 1, 1, none⟩ v) := fun cs ds u v =>
    ((((Below.refl _ _).alloc (Nat.le_refl _) _).alloc (by simp) _).setCell (by simp) _).setCell (by simp) _
  have HE := Lib.hid hend
  have hend2 : ∀ cs ds, Below w.heap.size w ((w.alloc (.cells cs 26)).alloc (.cells ds 57)) := fun cs ds => ((Below.refl _ _).alloc (Nat.le_refl _) _).alloc (by simp) _
  have HE2 := Lib.hid hend2
  clear hend hend2
  by_cases h0 : 0 ≤ f ∧ f < p.funcs.length
  · obtain ⟨k, rfl⟩ := Int.eq_ofNat_of_zero_le h0.1
    have hk : k < p.funcs.length := by omega
    obtain ⟨ad, t, rfl, hab, hi, c0, c1, hrc⟩ := HRF.out.at_ hk
    have hcl := HLC.out _ (List.mem_of_getElem? hi)
    have HB : Hid (B ≤ w.heap.size) := hB
    have d1 : ∀ cs ds, ((w.alloc (.cells cs 26)).alloc (.cells ds 57)).cell? ⟨(ad.add (k * 2)).block, (ad.add (k * 2)).off + 1, none⟩ = some (.slice t.A t.f.code.length t.c) := fun cs ds =>
      ((HE2.out cs ds).cell (p := ⟨(ad.add (k * 2)).block, (ad.add (k * 2)).off + 1, none⟩) (by show (ad.add (k * 2)).block < _; rw [block_of_add]; omega)).trans c1
    have hkl : (k : Int) < (p.funcs.length : Int) := by omega
    have hat : atP p k pc = if pc < 0 then none else t.f.code[pc.toNat]? := by
      unfold atP
      rw [show ((k : Int)).toNat = k by omega, hi]
      by_cases hn : pc < 0
      · rw [if_pos (.inr hn), if_pos hn]
      · rw [if_neg (by omega), if_neg hn]; rfl
    have HAT := Lib.hid hat
    by_cases h1 : 0 ≤ pc ∧ pc < t.f.code.length
    · obtain ⟨j, rfl⟩ := Int.eq_ofNat_of_zero_le h1.1
      have hj : j < t.f.code.length := by omega
      obtain ⟨ad2, i, hA2, hab2, hi2, e0, e1⟩ := hrc.at_ hj
      have q0 : ∀ cs ds, ((w.alloc (.cells cs 26)).alloc (.cells ds 57)).cell? (ad2.add (j * 2)) = some (.int .i64 i.op) := fun cs ds =>
        ((HE2.out cs ds).cell (p := ad2.add (j * 2)) (by rw [block_of_add]; omega)).trans e0
      have q1 : ∀ cs ds, ((w.alloc (.cells cs 26)).alloc (.cells ds 57)).cell? ⟨(ad2.add (j * 2)).block, (ad2.add (j * 2)).off + 1, none⟩ = some (.int .i64 i.a) := fun cs ds =>
        ((HE2.out cs ds).cell (p := ⟨(ad2.add (j * 2)).block, (ad2.add (j * 2)).off + 1, none⟩) (by show (ad2.add (j * 2)).block < _; rw [block_of_add]; omega)).trans e1
      have HV : Hid (atP p k j = some i) := by show _ = _; rw [HAT.out, if_neg (by omega), show ((j : Int)).toNat = j by omega, hi2]
      have hjl : (j : Int) < (t.f.code.length : Int) := by omega
      rw [hA2] at d1
      clear hi c0 c1 hrc hat hi2 e0 e1 hA2 h0 h1
      go_enter Try.func88, Try.ntmps88
      go_wp2_with fail
      exact bodyPost_ret (v := .tuple #[.agg #[.int .i64 i.op, .int .i64 i.a], .bool true]) (by simp [results, Try.results88, go_sem]) rfl ⟨by rw [HV.out]; rfl, by first | exact HE2.out _ _ | exact HE.out _ _ _ _⟩
    · have HV : Hid (atP p k pc = none) := by
        show _ = _
        rw [HAT.out]
        by_cases hn : pc < 0
        · rw [if_pos hn]
        · rw [if_neg hn, List.getElem?_eq_none (by omega)]
      clear hi c0 hrc hat h0
      by_cases hn : pc < 0
      · clear h1
        go_enter Try.func88, Try.ntmps88
        go_wp2_with fail
        exact bodyPost_ret (v := .tuple #[.agg #[.int .i64 0, .int .i64 0], .bool false]) (by simp [results, Try.results88, go_sem]) rfl ⟨by rw [HV.out]; rfl, by first | exact HE2.out _ _ | exact HE.out _ _ _ _⟩
      · have hge : (t.f.code.length : Int) ≤ pc := by omega
        clear h1
        go_enter Try.func88, Try.ntmps88
        go_wp2_with fail
        exact bodyPost_ret (v := .tuple #[.agg #[.int .i64 0, .int .i64 0], .bool false]) (by simp [results, Try.results88, go_sem]) rfl ⟨by rw [HV.out]; rfl, by first | exact HE2.out _ _ | exact HE.out _ _ _ _⟩
  · have HV : Hid (atP p f pc = none) := by
      show _ = _
      unfold atP
      split
      · rfl
      · rw [List.getElem?_eq_none (by omega)]; rfl
    by_cases hn : f < 0
    · clear h0
      go_enter Try.func88, Try.ntmps88
      go_wp2_with fail
      exact bodyPost_ret (v := .tuple #[.agg #[.int .i64 0, .int .i64 0], .bool false]) (by simp [results, Try.results88, go_sem]) rfl ⟨by rw [HV.out]; rfl, by first | exact HE2.out _ _ | exact HE.out _ _ _ _⟩
    · have hge : (p.funcs.length : Int) ≤ f := by omega
      clear h0
      go_enter Try.func88, Try.ntmps88
      go_wp2_with fail
      exact bodyPost_ret (v := .tuple #[.agg #[.int .i64 0, .int .i64 0], .bool false]) (by simp [results, Try.results88, go_sem]) rfl ⟨by rw [HV.out]; rfl, by first | exact HE2.out _ _ | exact HE.out _ _ _ _⟩
end Go.Proofs.Ytkciedcfphhenaa
