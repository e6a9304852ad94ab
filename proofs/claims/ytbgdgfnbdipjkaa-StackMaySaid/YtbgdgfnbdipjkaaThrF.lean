
/-
  Whether a thread may be: of the program.
-/
import Derived.Test.YtbgdgfnbdipjkaaThrE
set_option linter.unusedVariables false
set_option linter.unusedSimpArgs false
namespace Go.Proofs.Ytbgdgfnbdipjkaa
open Go.RowKit Plain

set_option maxHeartbeats 4000000 in
theorem areKept_any (l : List Int) (w : World) (B : Nat) (A : Option Addr) (n c : Nat) (hr : RI w B A n c l) (hn : n ≤ 9223372036854775807) :
    Calls Try.prog 39 #[.slice A n c] w fun e w' => e = .returned (.bool (keptB l)) ∧ w' = w := by
  have HR := Lib.hid hr
  have HL := Lib.hid hr.1
  clear hr
  go_enter Try.func39, Try.ntmps39
  go_wp2_with fail
  go_loopw [7] (fun s7 wr => ∃ k : Nat, k ≤ n ∧ s7 = .int .i64 (k : Int) ∧ wr = w ∧ Hid (keptB (l.take k) = true)) (fun s7 _ => n - (intOf s7).toNat)
  case atStart => exact ⟨0, by omega, rfl, rfl, by show _ = _; simp [keptB]⟩
  case round =>
    obtain ⟨k, hk, rfl, rfl, hkept⟩ := hrel
    by_cases hlt : k < n
    · obtain ⟨ad, z, rfl, hab, hz, hc⟩ := HR.out.at_ hlt
      have HZ := Lib.hid hz
      clear hz
      by_cases hkz : isKept z = true
      · have hnext : keptB (l.take (k + 1)) = true := by rw [keptB, all_take' HZ.out, hkz, Bool.and_true]; exact hkept.out
        have HN := Lib.hid hnext
        have HKZ := Lib.hid hkz
        clear hnext hkz
        go_wp2_with fail
        refine (isKept_any z _).mono ?_
        rintro e w' ⟨rfl, rfl⟩
        rw [HKZ.out]
        go_wp2_with fail
        exact ⟨⟨k + 1, by omega, by go_num, trivial, HN.out⟩, by simp [intOf]; omega⟩
      · have hkz' : isKept z = false := by simpa using hkz
        have hall : keptB l = false := by
          rw [keptB, List.all_eq_false]
          exact ⟨z, List.mem_of_getElem? HZ.out, by simp [hkz']⟩
        have HA := Lib.hid hall
        have HKZ := Lib.hid hkz'
        clear hall hkz hkz'
        go_wp2_with fail
        refine (isKept_any z _).mono ?_
        rintro e w' ⟨rfl, rfl⟩
        rw [HKZ.out]
        go_wp2_with fail
        go_ret
        exact ⟨ret_bool HA.out.symm, rfl⟩
    · have hall : keptB l = true := by
        have := hkept.out
        rwa [List.take_of_length_le (by rw [HL.out]; omega)] at this
      have HA := Lib.hid hall
      clear hall
      go_wp2_with fail
      go_ret
      exact ⟨ret_bool HA.out.symm, rfl⟩

set_option maxHeartbeats 4000000 in
set_option maxRecDepth 100000 in
theorem mayFrame_any (h : PH) (p : PV) (w : World) (B : Nat) (hr : RP w B h p) (hB : B ≤ w.heap.size) (hlen : Lens p) (x : TFr) (hri : RI w B x.A x.f.locals.length x.c x.f.locals) (hxl : x.f.locals.length ≤ 9223372036854775807) :
    Calls Try.prog 70 #[.agg #[.slice h.fA p.funcs.length h.fc, .int .i64 p.mutexes, .slice h.cA p.conds.length h.cc, .slice h.sA p.semas.length h.sc, .slice h.hA p.chans.length h.hc, .slice h.xA p.choices.length h.xc, .int .i64 p.threads], .agg #[.int .i64 x.f.func, .int .i64 x.f.pc, .slice x.A x.f.locals.length x.c]] w
      fun e w' => e = .returned (.bool (frB p x.f)) ∧ Below w.heap.size w w' := by
  obtain ⟨fA, fc, cA, cc, sA, sc, hA, hc, xA, xc⟩ := h
  have hrf : RF w B fA p.funcs.length fc p.funcs := hr.funcs
  have hpl := hlen.funcs
  have HRF := Lib.hid hrf; have HRI := Lib.hid hri; have HC := Lib.hid hlen.code
  have hend : ∀ cs ds, Below w.heap.size w ((w.alloc (.cells cs 26)).alloc (.cells ds 34)) := fun cs ds => ((Below.refl _ _).alloc (Nat.le_refl _) _).alloc (by simp) _
  have hend2 : ∀ cs ds es, Below w.heap.size w (((w.alloc (.cells cs 26)).alloc (.cells ds 34)).alloc (.cells es 64)) := fun cs ds es => (((Below.refl _ _).alloc (Nat.le_refl _) _).alloc (by simp) _).alloc (by simp; omega) _
  have HE := Lib.hid hend; have HE2 := Lib.hid hend2
  clear hr hlen hrf hri hend hend2
  by_cases h0 : 0 ≤ x.f.func ∧ x.f.func < p.funcs.length
  · obtain ⟨k, hk0⟩ := Int.eq_ofNat_of_zero_le h0.1
    have hk : k < p.funcs.length := by omega
    obtain ⟨ad, t, rfl, hab, hi, c0, c1, hrc⟩ := HRF.out.at_ hk
    have hcl := HC.out _ (List.mem_of_getElem? hi)
    have hfa : funcAt p x.f.func = t.f := by unfold funcAt; rw [hk0, show ((k : Int)).toNat = k by omega, List.getD_eq_getElem?_getD, hi]; rfl
    have hfr : frB p x.f = (decide (0 ≤ x.f.pc) && decide (x.f.pc ≤ t.f.code.length) && decide ((x.f.locals.length : Int) = t.f.locals) && keptB x.f.locals) := by
      unfold frB
      rw [hfa, decide_eq_true h0.1, decide_eq_true h0.2, Bool.true_and, Bool.true_and]
    rw [hfr]
    have d0 : ∀ cs ds, ((w.alloc (.cells cs 26)).alloc (.cells ds 34)).cell? (ad.add (k * 2)) = some (.int .i64 t.f.locals) := fun cs ds => ((HE.out cs ds).cell (by rw [block_of_add]; omega)).trans c0
    have d1 : ∀ cs ds, ((w.alloc (.cells cs 26)).alloc (.cells ds 34)).cell? ⟨(ad.add (k * 2)).block, (ad.add (k * 2)).off + 1, none⟩ = some (.slice t.A t.f.code.length t.c) := fun cs ds => ((HE.out cs ds).cell (p := ⟨(ad.add (k * 2)).block, (ad.add (k * 2)).off + 1, none⟩) (by show (ad.add (k * 2)).block < _; rw [block_of_add]; omega)).trans c1
    obtain ⟨⟨xf, xpc, xl⟩, xA', xc'⟩ := x
    simp only at hk0 hxl ⊢
    subst hk0
    have hk' : (k : Int) < (p.funcs.length : Int) := by omega
    have HRI2 : Hid (RI w B xA' xl.length xc' xl) := HRI.out
    clear hi c0 c1 hrc hfa hfr h0 HRI
    by_cases hp : 0 ≤ xpc ∧ xpc ≤ (t.f.code.length : Int)
    · by_cases he : (xl.length : Int) = t.f.locals
      · have HV : Hid ((decide (0 ≤ xpc) && decide (xpc ≤ (t.f.code.length : Int)) && decide ((xl.length : Int) = t.f.locals) && keptB xl) = keptB xl) := by
          show _ = _
          rw [decide_eq_true hp.1, decide_eq_true hp.2, decide_eq_true he]; simp
        have hwb : (decide (0 ≤ xpc) && decide (xpc ≤ (t.f.code.length : Int))) = true := by rw [decide_eq_true hp.1, decide_eq_true hp.2]; rfl
        have HW := Lib.hid hwb
        rw [← he] at d0
        clear hp he hwb
        rw [HV.out]
        clear HV
        go_enter Try.func70, Try.ntmps70
        go_wp2_with fail
        refine (swithin_any (k : Int) 0 _ _).mono ?_
        rintro e w' ⟨rfl, rfl⟩
        rw [show (decide (0 ≤ (k : Int)) && decide ((k : Int) ≤ (p.funcs.length : Int) - 1)) = true by simp; omega]
        go_wp2_with fail
        refine (swithin_any xpc 0 _ _).mono ?_
        rintro e w' ⟨rfl, rfl⟩
        rw [HW.out]
        go_wp2_with fail
        refine (areKept_any xl _ B xA' xl.length xc' (HRI2.out.keep fun q hq => (HE2.out _ _ _).cell (by omega)) hxl).mono ?_
        rintro e w' ⟨rfl, rfl⟩
        go_wp2_with fail
        go_ret
        exact ⟨rfl, HE2.out _ _ _⟩
      · have HV : Hid ((decide (0 ≤ xpc) && decide (xpc ≤ (t.f.code.length : Int)) && decide ((xl.length : Int) = t.f.locals) && keptB xl) = false) := by
          show _ = _
          rw [decide_eq_false he]; simp
        have hwb : (decide (0 ≤ xpc) && decide (xpc ≤ (t.f.code.length : Int))) = true := by rw [decide_eq_true hp.1, decide_eq_true hp.2]; rfl
        have HW := Lib.hid hwb
        have heb : ((xl.length : Int) == t.f.locals) = false := by simpa using he
        clear hp hwb he
        rw [HV.out]
        clear HV
        go_enter Try.func70, Try.ntmps70
        go_wp2_with fail
        refine (swithin_any (k : Int) 0 _ _).mono ?_
        rintro e w' ⟨rfl, rfl⟩
        rw [show (decide (0 ≤ (k : Int)) && decide ((k : Int) ≤ (p.funcs.length : Int) - 1)) = true by simp; omega]
        go_wp2_with fail
        refine (swithin_any xpc 0 _ _).mono ?_
        rintro e w' ⟨rfl, rfl⟩
        rw [HW.out]
        go_wp2_with fail
        go_ret
        exact ⟨rfl, HE2.out _ _ _⟩
    · have HV : Hid ((decide (0 ≤ xpc) && decide (xpc ≤ (t.f.code.length : Int)) && decide ((xl.length : Int) = t.f.locals) && keptB xl) = false) := by
        show _ = _
        have : (decide (0 ≤ xpc) && decide (xpc ≤ (t.f.code.length : Int))) = false := by simp; omega
        rw [this]; simp
      have hwb : (decide (0 ≤ xpc) && decide (xpc ≤ (t.f.code.length : Int))) = false := by simp; omega
      have HW := Lib.hid hwb
      clear hp hwb
      rw [HV.out]
      clear HV
      go_enter Try.func70, Try.ntmps70
      go_wp2_with fail
      refine (swithin_any (k : Int) 0 _ _).mono ?_
      rintro e w' ⟨rfl, rfl⟩
      rw [show (decide (0 ≤ (k : Int)) && decide ((k : Int) ≤ (p.funcs.length : Int) - 1)) = true by simp; omega]
      go_wp2_with fail
      refine (swithin_any xpc 0 _ _).mono ?_
      rintro e w' ⟨rfl, rfl⟩
      rw [HW.out]
      go_wp2_with fail
      go_ret
      exact ⟨rfl, HE2.out _ _ _⟩
  · have hfr : frB p x.f = false := by
      unfold frB
      have : (decide (0 ≤ x.f.func) && decide (x.f.func < p.funcs.length)) = false := by simp; omega
      rw [this]; simp
    have HV := Lib.hid hfr
    rw [hfr]
    have hwb : (decide (0 ≤ x.f.func) && decide (x.f.func ≤ (p.funcs.length : Int) - 1)) = false := by simp; omega
    have HW := Lib.hid hwb
    clear hfr hwb h0
    go_enter Try.func70, Try.ntmps70
    go_wp2_with fail
    refine (swithin_any x.f.func 0 _ _).mono ?_
    rintro e w' ⟨rfl, rfl⟩
    rw [HW.out]
    go_wp2_with fail
    go_ret
    exact ⟨rfl, HE.out _ _⟩
end Go.Proofs.Ytbgdgfnbdipjkaa
