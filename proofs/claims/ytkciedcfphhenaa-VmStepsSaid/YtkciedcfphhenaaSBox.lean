
/-
  A program and a thread, each in a box that nobody writes any more.
-/
import Derived.Test.YtkciedcfphhenaaGood4R
import Derived.Test.YtkciedcfphhenaaThrI
import Derived.Test.YtkciedcfphhenaaThrOpen
import Derived.Test.YtkciedcfphhenaaSLives
set_option linter.unusedVariables false
set_option linter.unusedSimpArgs false
namespace Go.Proofs.Ytkciedcfphhenaa
open Go.RowKit Plain

theorem bcells {W w1 : World} (hb : Below W.heap.size W w1) : (∀ b o, b < W.heap.size → w1.cell? ⟨b, o, none⟩ = W.cell? ⟨b, o, none⟩) ∧ (∀ b o, b < W.heap.size → w1.frozen? ⟨b, o, none⟩ = W.frozen? ⟨b, o, none⟩) :=
  ⟨fun b o h => hb.cell (p := ⟨b, o, none⟩) h, fun b o h => hb.frozen (p := ⟨b, o, none⟩) h⟩
/-- A program in its box. -/
structure PB (w wr : World) (gb BP : Nat) (h : PH) (g : PV) : Prop where
  pb : Blk wr gb 26 #[.slice h.fA g.funcs.length h.fc, .int .i64 g.mutexes, .slice h.cA g.conds.length h.cc, .slice h.sA g.semas.length h.sc, .slice h.hA g.chans.length h.hc, .slice h.xA g.choices.length h.xc, .int .i64 g.threads]
  rp : RP wr BP h g
  bel : Below w.heap.size w wr
  hBP : BP ≤ wr.heap.size
/-- A thread in its box. -/
structure TB (wr : World) (xb : Nat) (ht : TH) (t : TV) : Prop where
  tb : Blk wr xb 29 #[.int .i64 t.state, .int .i64 t.on, .slice ht.fA t.frames.length ht.fc, .slice ht.sA t.stack.length ht.sc, .int .i64 t.code]
  rt : RT wr (fun _ => True) ht t
theorem PB.below {w wr W : World} {gb BP : Nat} {h : PH} {g : PV} (s : PB w wr gb BP h g) (hb : Below wr.heap.size wr W) : PB w W gb BP h g :=
  ⟨s.pb.below hb s.pb.lt, s.rp.keep fun q hq => hb.cell (by have := s.hBP; omega), s.bel.trans (hb.mono s.bel.size), Nat.le_trans s.hBP hb.size⟩
theorem TB.below {wr W : World} {xb : Nat} {ht : TH} {t : TV} (s : TB wr xb ht t) (hb : Below wr.heap.size wr W) : TB W xb ht t :=
  ⟨s.tb.below hb s.tb.lt, s.rt.below hb⟩
theorem TB.new {w1 : World} {D : Nat → Prop} {ht : TH} {t : TV} (hr : RT w1 D ht t) : TB (w1.alloc (.cells #[.int .i64 t.state, .int .i64 t.on, .slice ht.fA t.frames.length ht.fc, .slice ht.sA t.stack.length ht.sc, .int .i64 t.code] 29)) w1.heap.size ht t :=
  ⟨Blk.new _ _ _, (hr.alloc _).mono fun _ _ _ => trivial⟩
theorem TB.put {w1 w2 : World} {b : Nat} {D : Nat → Prop} {ht : TH} {t : TV} (hr : RT w2 D ht t) (hD : ∀ i, D i → i ≠ b) (h0 : Blk w1 b 29 #[.int .i64 0, .int .i64 0, .slice none 0 0, .slice none 0 0, .int .i64 0]) (hb : Below w1.heap.size w1 w2) :
    TB (((((w2.setCell ⟨b, 0, none⟩ (.int .i64 t.state)).setCell ⟨b, 1, none⟩ (.int .i64 t.on)).setCell ⟨b, 2, none⟩ (.slice ht.fA t.frames.length ht.fc)).setCell ⟨b, 3, none⟩ (.slice ht.sA t.stack.length ht.sc)).setCell ⟨b, 4, none⟩ (.int .i64 t.code)) b ht t ∧ Below w1.heap.size w1 w2 := by
  have hfr := (Fr.refl (fun i => i = b) w2).set5 (g := b) (.inl rfl) (.int .i64 t.state) (.int .i64 t.on) (.slice ht.fA t.frames.length ht.fc) (.slice ht.sA t.stack.length ht.sc) (.int .i64 t.code)
  exact ⟨⟨(h0.below hb h0.lt).set5 _ _ _ _ _, (hr.keep fun p hd hp => hfr.cell hp (hD _ hd)).mono fun _ _ _ => trivial⟩, hb⟩
theorem dead_lens {c : Int} : LensT (deadT c) := ⟨by simp [deadT], by simp [deadT], by simp [deadT]⟩
theorem take_back (l : List Int) (x : Int) : (l ++ [x]).take l.length = l := by simp
theorem take_backF (l : List FrV) (x : FrV) : (l ++ [x]).take l.length = l := by simp
theorem lenT_may {p : PV} {t : TV} (h : mayT p t = true) : t.frames.length ≤ 8 ∧ t.stack.length ≤ 16 := by
  simp only [mayT, Bool.and_eq_true, decide_eq_true_eq] at h
  omega
end Go.Proofs.Ytkciedcfphhenaa
