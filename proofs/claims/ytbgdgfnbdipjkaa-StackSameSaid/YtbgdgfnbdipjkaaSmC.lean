
/-
  Whether two threads are one: of the document, both answers.
-/
import Derived.Test.YtbgdgfnbdipjkaaSmB
set_option linter.unusedVariables false
set_option linter.unusedSimpArgs false
namespace Go.Proofs.Ytbgdgfnbdipjkaa
open Go.RowKit Plain

structure Sm2 (w wr : World) (vs us : Array Value) : Prop where
  b1 : Blk wr w.heap.size 29 vs
  b2 : Blk wr (w.heap.size + 1) 29 us
  bel : Below w.heap.size w wr

set_option maxHeartbeats 8000000 in
set_option maxRecDepth 100000 in
theorem refSame_any (h k : TH) (t u : TV) (w : World) (D E : Nat → Prop) (hr : RT w D h t) (hk : RT w E k u) (hl : LenT t) (hm : LenT u) :
    Calls Try.prog 22 #[.agg #[.int .i64 t.state, .int .i64 t.on, .slice h.fA t.frames.length h.fc, .slice h.sA t.stack.length h.sc, .int .i64 t.code], .agg #[.int .i64 u.state, .int .i64 u.on, .slice k.fA u.frames.length k.fc, .slice k.sA u.stack.length k.sc, .int .i64 u.code]] w fun e w' => e = .returned (.bool (decide (t = u))) ∧ Below w.heap.size w w' := by
  have hF1 := hr.frames.rg
  have hF2 := hk.frames.rg
  have hsi := fun (W : World) (hb : Below w.heap.size w W) => sameInts_any t.stack u.stack W w.heap.size w.heap.size h.sA k.sA t.stack.length u.stack.length h.sc k.sc (hr.stack.ri.keep fun p hp => hb.cell hp) (hk.stack.ri.keep fun p hp => hb.cell hp) hl.stack hm.stack
  have hll := hl.locals
  have hlf := hl.frames
  have hml := hm.locals
  have hmf := hm.frames
  have HF1 := Lib.hid hF1; have HF2 := Lib.hid hF2; have HSI := Lib.hid hsi; have HLL := Lib.hid hll; have HML := Lib.hid hml
  clear hr hk hl hm hF1 hF2 hsi hll hml
  have hsm : ∀ vs us W, W = (w.alloc (.cells vs 29)).alloc (.cells us 29) → Sm2 w W vs us := by
    rintro vs us W rfl
    refine ⟨(Blk.new w _ _).alloc _, ?_, ((Below.refl _ _).alloc (Nat.le_refl _) _).alloc (by simp) _⟩
    simpa using Blk.new (w.alloc (.cells vs 29)) 29 us
  obtain ⟨fA, fc, sA, sc⟩ := h
  obtain ⟨gA, gc, kA, kc⟩ := k
  obtain ⟨t0, t1, tf, tk, t4⟩ := t
  obtain ⟨u0, u1, uf, uk, u4⟩ := u
  simp only at HSI HF1 HF2 HLL HML hlf hmf ⊢
  have HTN : Hid (tf.length = tf.length) := rfl
  have HUN : Hid (uf.length = uf.length) := rfl
  obtain ⟨n, hn⟩ : ∃ n, tf.length = n := ⟨_, rfl⟩
  obtain ⟨m, hm⟩ : ∃ n, uf.length = n := ⟨_, rfl⟩
  rw [hn] at HF1 hlf ⊢
  rw [hm] at HF2 hmf ⊢
  have HN1 := Lib.hid hn; have HM1 := Lib.hid hm
  clear hn hm HTN HUN
  have HSM := Lib.hid (hsm #[.int .i64 t0, .int .i64 t1, .slice fA n fc, .slice sA tk.length sc, .int .i64 t4] #[.int .i64 u0, .int .i64 u1, .slice gA m gc, .slice kA uk.length kc, .int .i64 u4] _ rfl)
  clear hsm
  by_cases e1 : t0 = u0
  · by_cases e2 : t1 = u1
    · by_cases e3 : t4 = u4
      · by_cases e4 : n = m
        · by_cases e5 : tk = uk
          · have HV : Hid (decide ((⟨t0, t1, tf, tk, t4⟩ : TV) = ⟨u0, u1, uf, uk, u4⟩) = decide (tf = uf)) := by
              show _ = _
              simp [e1, e2, e3, e5]
            have E5 := Lib.hid e5
            clear e5
            subst e1 e2 e3 e4
            go_enter Try.func22, Try.ntmps22
            go_wp2_with fail
            refine (HSI.out _ HSM.out.bel).mono ?_
            rintro e w1 ⟨rfl, d, rfl⟩
            rw [decide_eq_true E5.out]
            go_wp2_with fail
            go_loopw [5] (fun s wr => ∃ i : Nat, i ≤ n ∧ s = .int .i64 (i : Int) ∧ Sm2 w wr #[.int .i64 t0, .int .i64 t1, .slice fA n fc, .slice sA tk.length sc, .int .i64 t4] #[.int .i64 t0, .int .i64 t1, .slice gA n gc, .slice kA uk.length kc, .int .i64 t4] ∧ Hid (tf.take i = uf.take i)) (fun s _ => n - (intOf s).toNat)
            case atStart => exact ⟨0, by omega, rfl, ⟨HSM.out.b1.drewN _, HSM.out.b2.drewN _, below_drews HSM.out.bel _⟩, by show _ = _; simp⟩
            case round =>
              obtain ⟨i, hi, rfl, g, hp⟩ := hrel
              have G := Lib.hid g
              have x2 : wr.cell? ⟨w.heap.size, 2, none⟩ = some (.slice fA n fc) := (g.b1.cell 2).trans rfl
              have y2 : wr.cell? ⟨w.heap.size + 1, 2, none⟩ = some (.slice gA n gc) := (g.b2.cell 2).trans rfl
              have z1 := g.b1.lt
              have z2 := g.b2.lt
              have zb := g.bel.size
              by_cases hlt : i < n
              · have hlt2 := hlt
                obtain ⟨ad1, p1, rfl, hab1, hp1, a0, a1, a2, hri1⟩ := HF1.out.at_ hlt
                obtain ⟨ad2, p2, rfl, hab2, hp2, b0, b1, b2, hri2⟩ := HF2.out.at_ hlt2
                have hlp := HLL.out p1.f (List.mem_of_getElem? hp1)
                have hlq := HML.out p2.f (List.mem_of_getElem? hp2)
                have c0 := (g.bel.cell (p := ad1.add (i * 3)) (by rw [block_of_add]; exact hab1)).trans a0
                have c1 := (g.bel.cell (p := ⟨(ad1.add (i * 3)).block, (ad1.add (i * 3)).off + 1, none⟩) (by show (ad1.add (i * 3)).block < _; rw [block_of_add]; exact hab1)).trans a1
                have c2 := (g.bel.cell (p := ⟨(ad1.add (i * 3)).block, (ad1.add (i * 3)).off + 2, none⟩) (by show (ad1.add (i * 3)).block < _; rw [block_of_add]; exact hab1)).trans a2
                have e0 : ∀ o, (wr.alloc o).cell? (ad2.add (i * 3)) = some (.int .i64 p2.f.func) := fun o => ((g.bel.alloc zb o).cell (p := ad2.add (i * 3)) (by rw [block_of_add]; exact hab2)).trans b0
                have e1 : ∀ o, (wr.alloc o).cell? ⟨(ad2.add (i * 3)).block, (ad2.add (i * 3)).off + 1, none⟩ = some (.int .i64 p2.f.pc) := fun o => ((g.bel.alloc zb o).cell (p := ⟨(ad2.add (i * 3)).block, (ad2.add (i * 3)).off + 1, none⟩) (by show (ad2.add (i * 3)).block < _; rw [block_of_add]; exact hab2)).trans b1
                have e2 : ∀ o, (wr.alloc o).cell? ⟨(ad2.add (i * 3)).block, (ad2.add (i * 3)).off + 2, none⟩ = some (.slice p2.A p2.f.locals.length p2.c) := fun o => ((g.bel.alloc zb o).cell (p := ⟨(ad2.add (i * 3)).block, (ad2.add (i * 3)).off + 2, none⟩) (by show (ad2.add (i * 3)).block < _; rw [block_of_add]; exact hab2)).trans b2
                have hcon := fun o1 o2 => sameInts_any p1.f.locals p2.f.locals ((wr.alloc o1).alloc o2) w.heap.size w.heap.size p1.A p2.A p1.f.locals.length p2.f.locals.length p1.c p2.c (hri1.keep fun p hp => ((g.bel.alloc zb o1).alloc (by simp; omega) o2).cell hp) (hri2.keep fun p hp => ((g.bel.alloc zb o1).alloc (by simp; omega) o2).cell hp) hlp hlq
                have HCON := Lib.hid hcon
                have hnext := fun o1 o2 d => (⟨((g.b1.alloc o1).alloc o2).drewN d, ((g.b2.alloc o1).alloc o2).drewN d, below_drews ((g.bel.alloc zb o1).alloc (by simp; omega) o2) d⟩ : Sm2 w (((wr.alloc o1).alloc o2).drewN d) #[.int .i64 t0, .int .i64 t1, .slice (some ad1) n fc, .slice sA tk.length sc, .int .i64 t4] #[.int .i64 t0, .int .i64 t1, .slice (some ad2) n gc, .slice kA uk.length kc, .int .i64 t4])
                have HNX := Lib.hid hnext
                have hne : ¬ p1.f = p2.f → decide (tf = uf) = false := fun hh => decide_eq_false fun e => hh (by
                  have h1 := hp1
                  rw [e, hp2] at h1
                  injection h1 with h
                  exact h.symm)
                have hyes : p1.f = p2.f → tf.take (i + 1) = uf.take (i + 1) := fun hh => by rw [List.take_add_one, List.take_add_one, hp.out, hp1, hp2, hh]
                have HNE := Lib.hid hne; have HYES := Lib.hid hyes
                clear hp1 hp2 a0 a1 a2 b0 b1 b2 hri1 hri2 hcon hnext g hne hyes hlp hlq
                by_cases f1 : p1.f.func = p2.f.func
                · by_cases f2 : p1.f.pc = p2.f.pc
                  · simp only [← f1] at e0
                    simp only [← f2] at e1
                    have F1 := Lib.hid f1; have F2 := Lib.hid f2
                    clear f1 f2
                    go_wp2_with fail
                    refine (HCON.out _ _).mono ?_
                    rintro e w5 ⟨rfl, d2, rfl⟩
                    by_cases f3 : p1.f.locals = p2.f.locals
                    · have hnx := HYES.out (frv_ext F1.out F2.out f3)
                      have HN := Lib.hid hnx
                      rw [decide_eq_true f3]
                      clear f3 hnx
                      go_wp2_with fail
                      exact ⟨⟨i + 1, by omega, by go_num, HNX.out _ _ _, HN.out⟩, by simp [intOf]; omega⟩
                    · have hnx := HNE.out (fun e => f3 (by rw [e]))
                      have HN := Lib.hid hnx
                      rw [decide_eq_false f3]
                      clear f3 hnx
                      go_wp2_with fail
                      go_ret
                      exact ⟨ret_bool (by rw [HV.out, HN.out]), (HNX.out _ _ _).bel⟩
                  · have hnx := HNE.out (fun e => f2 (by rw [e]))
                    have HN := Lib.hid hnx
                    simp only [← f1] at e0
                    have hr2 : (p1.f.pc == p2.f.pc) = false := by simpa using f2
                    have hr2b : (p1.f.pc != p2.f.pc) = true := by simpa using f2
                    clear f1 f2 hnx
                    go_wp2_with fail
                    go_ret
                    exact ⟨ret_bool (by rw [HV.out, HN.out]), (HNX.out _ _ 0).bel⟩
                · have hnx := HNE.out (fun e => f1 (by rw [e]))
                  have HN := Lib.hid hnx
                  have hr1 : (p1.f.func == p2.f.func) = false := by simpa using f1
                  have hr1b : (p1.f.func != p2.f.func) = true := by simpa using f1
                  clear f1 hnx
                  go_wp2_with fail
                  go_ret
                  exact ⟨ret_bool (by rw [HV.out, HN.out]), (HNX.out _ _ 0).bel⟩
              · have he : decide (tf = uf) = true := by
                  refine decide_eq_true ?_
                  have := hp.out
                  rwa [List.take_of_length_le (by rw [HN1.out]; omega), List.take_of_length_le (by rw [HM1.out]; omega)] at this
                have HE := Lib.hid he
                clear g he
                go_wp2_with fail
                go_ret
                exact ⟨ret_bool (by rw [HV.out, HE.out]), G.out.bel⟩
          · have HV := Lib.hid (tv_ne (t := ⟨t0, t1, tf, tk, t4⟩) (u := ⟨u0, u1, uf, uk, u4⟩) fun h => e5 h.2.2.2.2)
            have E5 := Lib.hid e5
            clear e5
            subst e1 e2 e3 e4
            go_enter Try.func22, Try.ntmps22
            go_wp2_with fail
            refine (HSI.out _ HSM.out.bel).mono ?_
            rintro e w1 ⟨rfl, d, rfl⟩
            rw [decide_eq_false E5.out]
            go_wp2_with fail
            go_ret
            exact ⟨ret_bool HV.out.symm, below_drews HSM.out.bel d⟩
        · have HV := Lib.hid (tv_ne (t := ⟨t0, t1, tf, tk, t4⟩) (u := ⟨u0, u1, uf, uk, u4⟩) fun h => e4 (by rw [← HN1.out, ← HM1.out]; exact congrArg List.length h.2.2.2.1))
          have hq4 : ((n : Int) == (m : Int)) = false := by simp; omega
          have hq4b : ((n : Int) != (m : Int)) = true := by simp; omega
          clear e4
          subst e1 e2 e3
          go_enter Try.func22, Try.ntmps22
          go_wp2_with fail
          go_ret
          exact ⟨ret_bool HV.out.symm, HSM.out.bel⟩
      · have HV := Lib.hid (tv_ne (t := ⟨t0, t1, tf, tk, t4⟩) (u := ⟨u0, u1, uf, uk, u4⟩) fun h => e3 h.2.2.1)
        have hq3 : (t4 == u4) = false := by simpa using e3
        have hq3b : (t4 != u4) = true := by simpa using e3
        clear e3
        subst e1 e2
        go_enter Try.func22, Try.ntmps22
        go_wp2_with fail
        go_ret
        exact ⟨ret_bool HV.out.symm, HSM.out.bel⟩
    · have HV := Lib.hid (tv_ne (t := ⟨t0, t1, tf, tk, t4⟩) (u := ⟨u0, u1, uf, uk, u4⟩) fun h => e2 h.2.1)
      have hq2 : (t1 == u1) = false := by simpa using e2
      have hq2b : (t1 != u1) = true := by simpa using e2
      clear e2
      subst e1
      go_enter Try.func22, Try.ntmps22
      go_wp2_with fail
      go_ret
      exact ⟨ret_bool HV.out.symm, HSM.out.bel⟩
  · have HV := Lib.hid (tv_ne (t := ⟨t0, t1, tf, tk, t4⟩) (u := ⟨u0, u1, uf, uk, u4⟩) fun h => e1 h.1)
    have hq1 : (t0 == u0) = false := by simpa using e1
    have hq1b : (t0 != u0) = true := by simpa using e1
    clear e1
    go_enter Try.func22, Try.ntmps22
    go_wp2_with fail
    go_ret
    exact ⟨ret_bool HV.out.symm, HSM.out.bel⟩
end Go.Proofs.Ytbgdgfnbdipjkaa
