
/-
  Whether two threads are one: of the program.
-/
import Derived.Test.YtbgdgfnbdipjkaaSmA
set_option linter.unusedVariables false
set_option linter.unusedSimpArgs false
namespace Go.Proofs.Ytbgdgfnbdipjkaa
open Go.RowKit Plain

set_option maxHeartbeats 4000000 in
set_option maxRecDepth 100000 in
theorem equalFunc_any (fs gs : List FrV) (w : World) (B1 B2 : Nat) (A1 A2 : Option Addr) (n1 n2 c1 c2 : Nat) (h1 : RG w B1 A1 n1 c1 fs) (h2 : RG w B2 A2 n2 c2 gs) (hB1 : B1 ≤ w.heap.size) (hB2 : B2 ≤ w.heap.size)
    (hl1 : ∀ f ∈ fs, f.locals.length ≤ 9223372036854775807) (hl2 : ∀ f ∈ gs, f.locals.length ≤ 9223372036854775807) (hn1 : n1 ≤ 9223372036854775807) (hn2 : n2 ≤ 9223372036854775807) :
    Calls Try.prog 46 #[.slice A1 n1 c1, .slice A2 n2 c2, .func (.func 47) #[] #[]] w
      fun e w' => e = .returned (.bool (decide (fs = gs))) ∧ Below w.heap.size w w' := by
  have hk1 : fs.length = n1 := by obtain ⟨_, _, e, _⟩ := h1; exact e
  have hk2 : gs.length = n2 := by obtain ⟨_, _, e, _⟩ := h2; exact e
  by_cases hnn : n1 = n2
  · subst hnn
    have H1 := Lib.hid h1; have H2 := Lib.hid h2; have L1 := Lib.hid hk1; have L2 := Lib.hid hk2; have M1 := Lib.hid hl1; have M2 := Lib.hid hl2
    clear h1 h2 hk1 hk2 hl1 hl2
    go_enter Try.func46, Try.ntmps46
    go_wp2_with fail
    go_loopw [17] (fun s wr => ∃ k : Nat, k ≤ n1 ∧ s = .int .i64 (k : Int) ∧ Hid (Below w.heap.size w wr) ∧ Hid (fs.take k = gs.take k)) (fun s _ => n1 - (intOf s).toNat)
    case atStart => exact ⟨0, by omega, rfl, Below.refl _ _, by show _ = _; simp⟩
    case round =>
      obtain ⟨k, hk, rfl, hb, hp⟩ := hrel
      have zb := hb.out.size
      by_cases hlt : k < n1
      · obtain ⟨ad1, x, rfl, hab1, hx, a0, a1, a2, hri1⟩ := H1.out.at_ hlt
        obtain ⟨ad2, y, rfl, hab2, hy, b0, b1, b2, hri2⟩ := H2.out.at_ hlt
        have c0 := (hb.out.cell (p := ad1.add (k * 3)) (by rw [block_of_add]; omega)).trans a0
        have c1 := (hb.out.cell (p := ⟨(ad1.add (k * 3)).block, (ad1.add (k * 3)).off + 1, none⟩) (by show (ad1.add (k * 3)).block < _; rw [block_of_add]; omega)).trans a1
        have c2 := (hb.out.cell (p := ⟨(ad1.add (k * 3)).block, (ad1.add (k * 3)).off + 2, none⟩) (by show (ad1.add (k * 3)).block < _; rw [block_of_add]; omega)).trans a2
        have e0 : ∀ o, (wr.alloc o).cell? (ad2.add (k * 3)) = some (.int .i64 y.f.func) := fun o => ((hb.out.alloc zb o).cell (p := ad2.add (k * 3)) (by rw [block_of_add]; omega)).trans b0
        have e1 : ∀ o, (wr.alloc o).cell? ⟨(ad2.add (k * 3)).block, (ad2.add (k * 3)).off + 1, none⟩ = some (.int .i64 y.f.pc) := fun o => ((hb.out.alloc zb o).cell (p := ⟨(ad2.add (k * 3)).block, (ad2.add (k * 3)).off + 1, none⟩) (by show (ad2.add (k * 3)).block < _; rw [block_of_add]; omega)).trans b1
        have e2 : ∀ o, (wr.alloc o).cell? ⟨(ad2.add (k * 3)).block, (ad2.add (k * 3)).off + 2, none⟩ = some (.slice y.A y.f.locals.length y.c) := fun o => ((hb.out.alloc zb o).cell (p := ⟨(ad2.add (k * 3)).block, (ad2.add (k * 3)).off + 2, none⟩) (by show (ad2.add (k * 3)).block < _; rw [block_of_add]; omega)).trans b2
        have hcon := fun o1 o2 => sameFrame_any x y ((wr.alloc o1).alloc o2) B1 B2 (hri1.keep fun p hp => ((hb.out.alloc zb o1).alloc (by simp; omega) o2).cell (by omega)) (hri2.keep fun p hp => ((hb.out.alloc zb o1).alloc (by simp; omega) o2).cell (by omega)) (by simp; omega) (by simp; omega) (M1.out _ (List.mem_of_getElem? hx)) (M2.out _ (List.mem_of_getElem? hy))
        have hnext : ∀ o1 o2 W, Below ((wr.alloc o1).alloc o2).heap.size ((wr.alloc o1).alloc o2) W → Below w.heap.size w W := fun o1 o2 W h => ((hb.out.alloc zb o1).alloc (by simp; omega) o2).trans (h.mono (by simp; omega))
        have HCON := Lib.hid hcon; have HX := Lib.hid hx; have HY := Lib.hid hy; have HNX := Lib.hid hnext
        clear hx hy a0 a1 a2 b0 b1 b2 hri1 hri2 hcon hnext
        go_wp2_with fail
        refine (HCON.out _ _).mono ?_
        rintro e w5 ⟨rfl, h5⟩
        have hbw := HNX.out _ _ _ h5
        have HBW := Lib.hid hbw
        clear h5 hbw HCON
        by_cases hxy : x.f = y.f
        · have hnx : fs.take (k + 1) = gs.take (k + 1) := by rw [List.take_add_one, List.take_add_one, hp.out, HX.out, HY.out, hxy]
          have HN := Lib.hid hnx
          rw [decide_eq_true hxy]
          clear hxy hnx
          go_wp2_with fail
          exact ⟨⟨k + 1, by omega, by go_num, HBW, HN.out⟩, by simp [intOf]; omega⟩
        · have hne : decide (fs = gs) = false := by
            refine decide_eq_false fun e => hxy ?_
            have h1 := HX.out
            rw [e, HY.out] at h1
            injection h1 with h
            exact h.symm
          have HN := Lib.hid hne
          rw [decide_eq_false hxy]
          clear hxy hne
          go_wp2_with fail
          go_ret
          exact ⟨ret_bool HN.out.symm, HBW.out⟩
      · have he : decide (fs = gs) = true := by
          refine decide_eq_true ?_
          have := hp.out
          rwa [List.take_of_length_le (by rw [L1.out]; omega), List.take_of_length_le (by rw [L2.out]; omega)] at this
        have HE := Lib.hid he
        clear he
        go_wp2_with fail
        go_ret
        exact ⟨ret_bool HE.out.symm, hb.out⟩
  · have hne : decide (fs = gs) = false := decide_eq_false fun e => hnn (by rw [← hk1, ← hk2, e])
    have HN := Lib.hid hne
    have hnb : ((n1 : Int) == (n2 : Int)) = false := by simp; omega
    clear h1 h2 hk1 hk2 hl1 hl2 hne hnn
    go_enter Try.func46, Try.ntmps46
    go_wp2_with fail
    go_ret
    exact ⟨ret_bool HN.out.symm, Below.refl _ _⟩

theorem tv_ne {t u : TV} (h : ¬ (t.state = u.state ∧ t.on = u.on ∧ t.code = u.code ∧ t.frames = u.frames ∧ t.stack = u.stack)) : decide (t = u) = false :=
  decide_eq_false fun e => h (by rw [e]; exact ⟨rfl, rfl, rfl, rfl, rfl⟩)
theorem tv_eq {t u : TV} (h1 : t.state = u.state) (h2 : t.on = u.on) (h3 : t.code = u.code) (h4 : t.frames = u.frames) : decide (t = u) = decide (t.stack = u.stack) := by
  cases t; cases u; simp_all

set_option maxHeartbeats 4000000 in
set_option maxRecDepth 100000 in
theorem same_any (h k : TH) (t u : TV) (w : World) (D E : Nat → Prop) (hr : RT w D h t) (hk : RT w E k u) (hl : LenT t) (hm : LenT u) :
    Calls Try.prog 21 #[.agg #[.int .i64 t.state, .int .i64 t.on, .slice h.fA t.frames.length h.fc, .slice h.sA t.stack.length h.sc, .int .i64 t.code], .agg #[.int .i64 u.state, .int .i64 u.on, .slice k.fA u.frames.length k.fc, .slice k.sA u.stack.length k.sc, .int .i64 u.code]] w fun e w' => e = .returned (.bool (decide (t = u))) ∧ Below w.heap.size w w' := by
  have hb2 : ∀ o1 o2, Below w.heap.size w ((w.alloc o1).alloc o2) := fun o1 o2 => ((Below.refl _ _).alloc (Nat.le_refl _) o1).alloc (by simp) o2
  have hef := fun o1 o2 => equalFunc_any t.frames u.frames ((w.alloc o1).alloc o2) w.heap.size w.heap.size h.fA k.fA t.frames.length u.frames.length h.fc k.fc (hr.frames.rg.keep fun p hp => (hb2 o1 o2).cell hp) (hk.frames.rg.keep fun p hp => (hb2 o1 o2).cell hp) (hb2 o1 o2).size (hb2 o1 o2).size hl.locals hm.locals hl.frames hm.frames
  have heq := fun o1 o2 X (hX : Below ((w.alloc o1).alloc o2).heap.size ((w.alloc o1).alloc o2) X) => equal_any t.stack u.stack X w.heap.size w.heap.size h.sA k.sA t.stack.length u.stack.length h.sc k.sc (hr.stack.ri.keep fun p hp => ((hb2 o1 o2).trans (hX.mono (hb2 o1 o2).size)).cell hp) (hk.stack.ri.keep fun p hp => ((hb2 o1 o2).trans (hX.mono (hb2 o1 o2).size)).cell hp) hl.stack hm.stack
  have hbx : ∀ cs ds, ∀ X, Below ((w.alloc (.cells cs 29)).alloc (.cells ds 29)).heap.size ((w.alloc (.cells cs 29)).alloc (.cells ds 29)) X → Blk X w.heap.size 29 cs ∧ Blk X (w.heap.size + 1) 29 ds ∧ Below w.heap.size w X := fun cs ds X hX => by
    refine ⟨((Blk.new w _ _).alloc _).below hX (by simp only [World.size_alloc]; omega), Blk.below ?_ hX (by simp only [World.size_alloc]; omega), (hb2 _ _).trans (hX.mono (hb2 _ _).size)⟩
    simpa using Blk.new (w.alloc (.cells cs 29)) 29 ds
  have HB2 := Lib.hid hb2; have HEF := Lib.hid hef; have HEQ := Lib.hid heq; have HBX := Lib.hid hbx
  clear hr hk hl hm hb2 hef heq hbx
  obtain ⟨fA, fc, sA, sc⟩ := h
  obtain ⟨gA, gc, kA, kc⟩ := k
  simp only at HEF HEQ ⊢
  by_cases e1 : t.state = u.state
  · by_cases e2 : t.on = u.on
    · by_cases e3 : t.code = u.code
      · by_cases e4 : t.frames = u.frames
        · have HV := Lib.hid (tv_eq e1 e2 e3 e4)
          have E4 := Lib.hid e4
          rw [e1, e2, e3]
          clear e1 e2 e3 e4
          go_enter Try.func21, Try.ntmps21
          go_wp2_with fail
          refine (HEF.out _ _).mono ?_
          rintro e w5 ⟨rfl, h5⟩
          obtain ⟨k1, k2, k3⟩ := HBX.out _ _ _ h5
          have hc2 := HEQ.out _ _ _ h5
          have x3 := (k1.cell 3).trans rfl
          have y3 := (k2.cell 3).trans rfl
          have K3 := Lib.hid k3; have HC2 := Lib.hid hc2
          rw [decide_eq_true E4.out]
          clear h5 k1 k2 k3 hc2
          go_wp2_with fail
          refine HC2.out.mono ?_
          rintro e w6 ⟨rfl, d, rfl⟩
          go_wp2_with fail
          go_ret
          exact ⟨ret_bool HV.out.symm, below_drews K3.out d⟩
        · have HV := Lib.hid (tv_ne (t := t) (u := u) fun h => e4 h.2.2.2.1)
          have E4 := Lib.hid e4
          rw [e1, e2, e3]
          clear e1 e2 e3 e4
          go_enter Try.func21, Try.ntmps21
          go_wp2_with fail
          refine (HEF.out _ _).mono ?_
          rintro e w5 ⟨rfl, h5⟩
          have k3 := (HBX.out _ _ _ h5).2.2
          have K3 := Lib.hid k3
          rw [decide_eq_false E4.out]
          clear h5 k3
          go_wp2_with fail
          go_ret
          exact ⟨ret_bool HV.out.symm, K3.out⟩
      · have HV := Lib.hid (tv_ne (t := t) (u := u) fun h => e3 h.2.2.1)
        have hb : (t.code == u.code) = false := by simpa using e3
        rw [e1, e2]
        clear e1 e2 e3
        go_enter Try.func21, Try.ntmps21
        go_wp2_with fail
        go_ret
        exact ⟨ret_bool HV.out.symm, HB2.out _ _⟩
    · have HV := Lib.hid (tv_ne (t := t) (u := u) fun h => e2 h.2.1)
      have hb : (t.on == u.on) = false := by simpa using e2
      rw [e1]
      clear e1 e2
      go_enter Try.func21, Try.ntmps21
      go_wp2_with fail
      go_ret
      exact ⟨ret_bool HV.out.symm, HB2.out _ _⟩
  · have HV := Lib.hid (tv_ne (t := t) (u := u) fun h => e1 h.1)
    have hb : (t.state == u.state) = false := by simpa using e1
    clear e1
    go_enter Try.func21, Try.ntmps21
    go_wp2_with fail
    go_ret
    exact ⟨ret_bool HV.out.symm, HB2.out _ _⟩
end Go.Proofs.Ytbgdgfnbdipjkaa
