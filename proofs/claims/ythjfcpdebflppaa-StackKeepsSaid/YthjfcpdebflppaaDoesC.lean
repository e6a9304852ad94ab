/-
  does: what it hands back, whatever the deed.
-/
import Derived.Test.YthjfcpdebflppaaDoesB
set_option linter.unusedVariables false
set_option linter.unusedSimpArgs false
namespace Go.Proofs.Ythjfcpdebflppaa
open Go.RowKit Plain

theorem lastFr_setLast {t : TV} {f : FrV} (h : 0 < t.frames.length) : lastFr (setLast t f) = f := by
  have h1 : 0 < (setLast t f).frames.length := by simpa [setLast] using h
  have h2 := lastFr_at h1
  have h3 : (setLast t f).frames[(setLast t f).frames.length - 1]? = some f := by
    simp only [setLast, List.length_set]
    rw [List.getElem?_set_self (by omega)]
  rw [h3] at h2
  injection h2 with h2
  exact h2.symm
theorem funcAt_mem {p : PV} {f : Int} (h0 : 0 ≤ f) (h1 : f < p.funcs.length) : funcAt p f ∈ p.funcs := by
  unfold funcAt
  rw [List.getD_eq_getElem?_getD, List.getElem?_eq_getElem (by omega)]
  exact List.getElem_mem _
theorem does_any (h : PH) (p : PV) (h1 h2 : TH) (t : TV) (kind v i : Int) (w : World) (hp : RP w w.heap.size h p) (ht1 : RT w (fun _ => True) h1 t) (ht2 : RT w (fun _ => True) h2 t) (hfl : FewLoc p) (hpl : p.funcs.length ≤ 1000000) (hn : 1 ≤ p.funcs.length) (hcl : ∀ f ∈ p.funcs, f.code.length ≤ 1000000) (hmay : mayT p t = true) (hs : t.state ≠ 9) (hv : -9223372036854775808 ≤ v ∧ v ≤ 9223372036854775807) (hi : -9223372036854775808 ≤ i ∧ i ≤ 9223372036854775807) (x : TV) (hx : x = doesT p t kind v i) :
    Calls Try.prog 34 #[.agg #[.slice h.fA p.funcs.length h.fc, .int .i64 p.mutexes, .slice h.cA p.conds.length h.cc, .slice h.sA p.semas.length h.sc, .slice h.hA p.chans.length h.hc, .slice h.xA p.choices.length h.xc, .int .i64 p.threads], .agg #[.int .i64 t.state, .int .i64 t.on, .slice h1.fA t.frames.length h1.fc, .slice h1.sA t.stack.length h1.sc, .int .i64 t.code], .agg #[.int .i64 t.state, .int .i64 t.on, .slice h2.fA t.frames.length h2.fc, .slice h2.sA t.stack.length h2.sc, .int .i64 t.code], .agg #[.int .i64 kind, .int .i64 v, .int .i64 i]] w
      fun e w' => ∃ ha hb : TH, e = .returned (.tuple #[.agg #[.int .i64 x.state, .int .i64 x.on, .slice ha.fA x.frames.length ha.fc, .slice ha.sA x.stack.length ha.sc, .int .i64 x.code], .agg #[.int .i64 x.state, .int .i64 x.on, .slice hb.fA x.frames.length hb.fc, .slice hb.sA x.stack.length hb.sc, .int .i64 x.code], .bool true]) ∧ RT w' (fun _ => True) ha x ∧ RT w' (fun _ => True) hb x ∧ Below w.heap.size w w' := by
  have hl := lensT_may hfl hmay
  have hle := lenT_may hmay
  have hpos := frames_pos hmay hs
  have hm : 1 ≤ t.frames.length ∧ t.frames.length ≤ 8 ∧ t.stack.length ≤ 16 := ⟨hpos, hle.1, hle.2⟩
  obtain ⟨b1, b2, b3, b4, b5, b6⟩ := (frB_iff p _).1 (lastFr_ok hmay hs)
  by_cases k0 : kind = 0
  · subst k0
    exact does_k0 h p h1 h2 t v i w hp ht1 ht2 hfl hpl hl hm hv hi x (by rw [hx]; simp [doesT])
  by_cases k1 : kind = 1
  · subst k1
    refine does_k1 h p h1 h2 t v i w hp ht1 ht2 hfl hpl hl hm hv hi x ?_
    rw [hx]
    by_cases hc : t.stack.length = 0
    · simp [doesT, hc]
    · simp [doesT, hc, Nat.pos_of_ne_zero hc]
  by_cases k2 : kind = 2
  · subst k2
    have hb := around_bd v p.funcs.length (by omega)
    obtain ⟨f, hf⟩ := Int.eq_ofNat_of_zero_le hb.1
    refine does_k2 h p h1 h2 t v i w hp ht1 ht2 hfl hpl hl hm hv hi f (by omega) hf x ?_
    rw [hx]; simp [doesT, hf]
  by_cases k3 : kind = 3
  · subst k3
    by_cases hc : t.frames.length < 2
    · exact does_k3b h p h1 h2 t v i w hp ht1 ht2 hfl hpl hl hm hv hi hc x (by rw [hx]; simp [doesT, hc])
    · exact does_k3 h p h1 h2 t v i w hp ht1 ht2 hfl hpl hl hm hv hi (by omega) x (by rw [hx]; simp [doesT, hc])
  obtain ⟨f, hf⟩ := Int.eq_ofNat_of_zero_le b1
  have hfn : f < p.funcs.length := by omega
  have hco := hcl _ (funcAt_mem b1 b2)
  have hlo := hfl _ (funcAt_mem b1 b2)
  by_cases k4 : kind = 4
  · subst k4
    exact does_k4 h p h1 h2 t v i w hp ht1 ht2 hfl hpl hl hm hv hi f hfn hf hco x (by rw [hx]; simp [doesT])
  have e : ∀ j : Int, ¬ kind = j → (kind == j) = false := fun j hj => by rw [beq_eq_false_iff_ne]; exact hj
  by_cases hc : (funcAt p (lastFr t).func).locals = 0
  · exact does_k5b h p h1 h2 t kind v i w hp ht1 ht2 hfl hpl hl hm hv hi (e 0 k0) (e 1 k1) (e 2 k2) (e 3 k3) (e 4 k4) f hfn hf hco hc x (by rw [hx]; simp [doesT, k0, k1, k2, k3, k4, hc])
  · have hb := around_bd i (funcAt p (lastFr t).func).locals (by omega)
    obtain ⟨il, hil⟩ := Int.eq_ofNat_of_zero_le hb.1
    have hxe : x = setT t (il : Int) v := by rw [hx]; simp [doesT, k0, k1, k2, k3, k4, hc, hil]
    have hxf : x.frames.length = t.frames.length := by rw [hxe]; simp [setT, setLast]
    have hxl : (lastFr x).locals.length = (lastFr t).locals.length := by rw [hxe]; unfold setT; rw [lastFr_setLast hpos]; simp
    exact does_k5 h p h1 h2 t kind v i w hp ht1 ht2 hfl hpl hl hm hv hi (e 0 k0) (e 1 k1) (e 2 k2) (e 3 k3) (e 4 k4) f hfn hf hco x il hil (by omega) (by omega) (by omega) (by rw [hxf]; omega) (by rw [hxl]; omega) hxe
end Go.Proofs.Ythjfcpdebflppaa
