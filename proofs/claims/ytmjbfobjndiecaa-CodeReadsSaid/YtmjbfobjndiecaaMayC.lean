
/-
  The program's rules: of each instruction what its number may be.
-/
import Derived.Test.YtmjbfobjndiecaaMayB
import Derived.Deep.RegionHeld3
import Derived.Deep.DeepCutAuto
import Derived.IntWalk
import Derived.Laws.Tables
import Derived.Laws.EntriesVeiled
set_option linter.unusedVariables false
set_option linter.unusedSimpArgs false
namespace Go.Proofs.Ytmjbfobjndiecaa
open Go.RowKit Plain

/-- What stands for an instruction among the rules. -/
def RuleV (w : World) (m : Int → Int) (op : Nat) (v : Value) : Prop :=
  (op = 0 ∧ v = .func (.func 93) #[] #[]) ∨ (op ≠ 0 ∧ asks op = false ∧ v = Value.nilFunc) ∨
    (op ≠ 0 ∧ asks op = true ∧ ∃ g, v = .func (.func 71) #[] #[.pointer (some ⟨g, 0, none⟩)] ∧ Blk w g 3 #[.int .i64 (m op)])
theorem RuleV.below {w w' : World} {m : Int → Int} {op : Nat} {v : Value} (h : RuleV w m op v) (hb : Below w.heap.size w w') : RuleV w' m op v := by
  rcases h with h | h | ⟨h1, h2, g, h3, h4⟩
  · exact .inl h
  · exact .inr (.inl h)
  · exact .inr (.inr ⟨h1, h2, g, h3, h4.below hb h4.lt⟩)

def clo (g : Nat) : Value := .func (.func 71) #[] #[.pointer (some ⟨g, 0, none⟩)]
/-- Three rules that were made, in whatever row. -/
def RCut3 (W : World) (n1 n2 n3 : Int) (s1 s2 s3 : Value) (wx : World) : Prop :=
  ∃ g1 g2 g3, s1 = clo g1 ∧ s2 = clo g2 ∧ s3 = clo g3 ∧ Blk wx g1 3 #[.int .i64 n1] ∧ Blk wx g2 3 #[.int .i64 n2] ∧ Blk wx g3 3 #[.int .i64 n3] ∧ Below W.heap.size W wx
def RCut2 (W : World) (n1 n2 : Int) (s1 s2 : Value) (wx : World) : Prop :=
  ∃ g1 g2, s1 = clo g1 ∧ s2 = clo g2 ∧ Blk wx g1 3 #[.int .i64 n1] ∧ Blk wx g2 3 #[.int .i64 n2] ∧ Below W.heap.size W wx
theorem three (W : World) (t t' t'' : TypeId) (a b c : Array Value) : Blk (((W.alloc (.cells a t)).alloc (.cells b t')).alloc (.cells c t'')) W.heap.size t a ∧ Blk (((W.alloc (.cells a t)).alloc (.cells b t')).alloc (.cells c t'')) (W.heap.size + 1) t' b ∧
    Blk (((W.alloc (.cells a t)).alloc (.cells b t')).alloc (.cells c t'')) (W.heap.size + 1 + 1) t'' c ∧ Below W.heap.size W (((W.alloc (.cells a t)).alloc (.cells b t')).alloc (.cells c t'')) := by
  refine ⟨((Blk.new W t a).alloc _).alloc _, ?_, ?_, (((Below.refl _ _).alloc (Nat.le_refl _) _).alloc (by simp) _).alloc (by simp; omega) _⟩
  · refine Blk.alloc ?_ _
    simpa using Blk.new (W.alloc (.cells a t)) t' b
  · simpa using Blk.new ((W.alloc (.cells a t)).alloc (.cells b t')) t'' c

theorem two (W : World) (t t' : TypeId) (a b : Array Value) : Blk ((W.alloc (.cells a t)).alloc (.cells b t')) W.heap.size t a ∧ Blk ((W.alloc (.cells a t)).alloc (.cells b t')) (W.heap.size + 1) t' b ∧ Below W.heap.size W ((W.alloc (.cells a t)).alloc (.cells b t')) := by
  refine ⟨(Blk.new W t a).alloc _, ?_, ((Below.refl _ _).alloc (Nat.le_refl _) _).alloc (by simp) _⟩
  simpa using Blk.new (W.alloc (.cells a t)) t' b

/-- The array of a program's and a function's rules. -/
def ruleArr (g1 g2 g3 g4 g5 g6 g7 g8 : Nat) : Array Value :=
  #[.func (.func 93) #[] #[], Value.nilFunc, Value.nilFunc, Value.nilFunc, Value.nilFunc, clo g1, clo g1, clo g2, clo g2, clo g3, Value.nilFunc, clo g3, Value.nilFunc, Value.nilFunc, Value.nilFunc, clo g4, clo g4, clo g5, clo g5, clo g5, clo g6, clo g6, clo g7, clo g7, clo g8, Value.nilFunc, Value.nilFunc]

theorem ruleArr_one (g1 g2 g3 g4 g5 g6 g7 g8 : Nat) : (ruleArr g1 g2 g3 g4 g5 g6 g7 g8).all (·.oneCell') = true := by
  unfold ruleArr clo
  simp [Value.oneCell']

theorem ruleArr_at {w : World} {nf mu nc ns nh nx lo nk : Int} {g1 g2 g3 g4 g5 g6 g7 g8 : Nat} (k1 : Blk w g1 3 #[.int .i64 lo]) (k2 : Blk w g2 3 #[.int .i64 (nk + 1)]) (k3 : Blk w g3 3 #[.int .i64 nf]) (k4 : Blk w g4 3 #[.int .i64 mu]) (k5 : Blk w g5 3 #[.int .i64 nc])
    (k6 : Blk w g6 3 #[.int .i64 ns]) (k7 : Blk w g7 3 #[.int .i64 nh]) (k8 : Blk w g8 3 #[.int .i64 nx]) (op : Nat) (hop : op < 27) :
    ∃ v, (ruleArr g1 g2 g3 g4 g5 g6 g7 g8)[op]? = some v ∧ RuleV w (mostV nf mu nc ns nh nx lo nk) op v := by
  have hop' : op = 0 ∨ op = 1 ∨ op = 2 ∨ op = 3 ∨ op = 4 ∨ op = 5 ∨ op = 6 ∨ op = 7 ∨ op = 8 ∨ op = 9 ∨ op = 10 ∨ op = 11 ∨ op = 12 ∨ op = 13 ∨ op = 14 ∨ op = 15 ∨ op = 16 ∨ op = 17 ∨ op = 18 ∨ op = 19 ∨ op = 20 ∨ op = 21 ∨ op = 22 ∨ op = 23 ∨ op = 24 ∨ op = 25 ∨ op = 26 := by omega
  rcases hop' with rfl | rfl | rfl | rfl | rfl | rfl | rfl | rfl | rfl | rfl | rfl | rfl | rfl | rfl | rfl | rfl | rfl | rfl | rfl | rfl | rfl | rfl | rfl | rfl | rfl | rfl | rfl
  · exact ⟨_, rfl, .inl ⟨rfl, rfl⟩⟩
  · exact ⟨_, rfl, .inr (.inl ⟨by decide, by decide, rfl⟩)⟩
  · exact ⟨_, rfl, .inr (.inl ⟨by decide, by decide, rfl⟩)⟩
  · exact ⟨_, rfl, .inr (.inl ⟨by decide, by decide, rfl⟩)⟩
  · exact ⟨_, rfl, .inr (.inl ⟨by decide, by decide, rfl⟩)⟩
  · exact ⟨_, rfl, .inr (.inr ⟨by decide, by decide, g1, rfl, by simpa [mostV] using k1⟩)⟩
  · exact ⟨_, rfl, .inr (.inr ⟨by decide, by decide, g1, rfl, by simpa [mostV] using k1⟩)⟩
  · exact ⟨_, rfl, .inr (.inr ⟨by decide, by decide, g2, rfl, by simpa [mostV] using k2⟩)⟩
  · exact ⟨_, rfl, .inr (.inr ⟨by decide, by decide, g2, rfl, by simpa [mostV] using k2⟩)⟩
  · exact ⟨_, rfl, .inr (.inr ⟨by decide, by decide, g3, rfl, by simpa [mostV] using k3⟩)⟩
  · exact ⟨_, rfl, .inr (.inl ⟨by decide, by decide, rfl⟩)⟩
  · exact ⟨_, rfl, .inr (.inr ⟨by decide, by decide, g3, rfl, by simpa [mostV] using k3⟩)⟩
  · exact ⟨_, rfl, .inr (.inl ⟨by decide, by decide, rfl⟩)⟩
  · exact ⟨_, rfl, .inr (.inl ⟨by decide, by decide, rfl⟩)⟩
  · exact ⟨_, rfl, .inr (.inl ⟨by decide, by decide, rfl⟩)⟩
  · exact ⟨_, rfl, .inr (.inr ⟨by decide, by decide, g4, rfl, by simpa [mostV] using k4⟩)⟩
  · exact ⟨_, rfl, .inr (.inr ⟨by decide, by decide, g4, rfl, by simpa [mostV] using k4⟩)⟩
  · exact ⟨_, rfl, .inr (.inr ⟨by decide, by decide, g5, rfl, by simpa [mostV] using k5⟩)⟩
  · exact ⟨_, rfl, .inr (.inr ⟨by decide, by decide, g5, rfl, by simpa [mostV] using k5⟩)⟩
  · exact ⟨_, rfl, .inr (.inr ⟨by decide, by decide, g5, rfl, by simpa [mostV] using k5⟩)⟩
  · exact ⟨_, rfl, .inr (.inr ⟨by decide, by decide, g6, rfl, by simpa [mostV] using k6⟩)⟩
  · exact ⟨_, rfl, .inr (.inr ⟨by decide, by decide, g6, rfl, by simpa [mostV] using k6⟩)⟩
  · exact ⟨_, rfl, .inr (.inr ⟨by decide, by decide, g7, rfl, by simpa [mostV] using k7⟩)⟩
  · exact ⟨_, rfl, .inr (.inr ⟨by decide, by decide, g7, rfl, by simpa [mostV] using k7⟩)⟩
  · exact ⟨_, rfl, .inr (.inr ⟨by decide, by decide, g8, rfl, by simpa [mostV] using k8⟩)⟩
  · exact ⟨_, rfl, .inr (.inl ⟨by decide, by decide, rfl⟩)⟩
  · exact ⟨_, rfl, .inr (.inl ⟨by decide, by decide, rfl⟩)⟩

def Ruled (w : World) (m : Int → Int) (e : Ending) (w' : World) : Prop :=
  ∃ arr : Array Value, e = .returned (.agg arr) ∧ arr.size = 27 ∧ (∀ op, op < 27 → ∃ v, arr[op]? = some v ∧ RuleV w' m op v) ∧ Below w.heap.size w w'

set_option maxHeartbeats 4000000 in
set_option maxRecDepth 100000 in
theorem rules_any (fA cA sA hA xA kA : Option Addr) (nf fc nc cc ns sc nh hc nx xc nk kc : Nat) (mu th lo : Int) (w : World) (b6 : nk ≤ 4611686018427387904) :
    Calls Try.prog 74 #[.agg #[.slice fA nf fc, .int .i64 mu, .slice cA nc cc, .slice sA ns sc, .slice hA nh hc, .slice xA nx xc, .int .i64 th], .agg #[.int .i64 lo, .slice kA nk kc]] w
      (Ruled w (mostV nf mu nc ns nh nx lo nk)) := by
  go_enter Try.func74, Try.ntmps74
  go_upto_region 1 with fail
  generalize hW0 : World.alloc (World.alloc (World.alloc w _) _) _ = W0
  obtain ⟨t1, t2, t3, t4⟩ := three w 26 45 107 #[.slice fA nf fc, .int .i64 mu, .slice cA nc cc, .slice sA ns sc, .slice hA nh hc, .slice xA nx xc, .int .i64 th] #[.int .i64 lo, .slice kA nk kc] (Array.replicate 27 Value.nilFunc)
  have hW0' : ((w.alloc (.cells #[.slice fA nf fc, .int .i64 mu, .slice cA nc cc, .slice sA ns sc, .slice hA nh hc, .slice xA nx xc, .int .i64 th] 26)).alloc (.cells #[.int .i64 lo, .slice kA nk kc] 45)).alloc (.cells (Array.replicate 27 Value.nilFunc) 107) = W0 := hW0
  rw [hW0'] at t1 t2 t3 t4
  clear hW0 hW0'
  have p0 : W0.cell? ⟨w.heap.size, 0, none⟩ = some (.slice fA nf fc) := (t1.cell 0).trans rfl
  have p1 : W0.cell? ⟨w.heap.size, 1, none⟩ = some (.int .i64 mu) := (t1.cell 1).trans rfl
  have p2 : W0.cell? ⟨w.heap.size, 2, none⟩ = some (.slice cA nc cc) := (t1.cell 2).trans rfl
  have p3 : W0.cell? ⟨w.heap.size, 3, none⟩ = some (.slice sA ns sc) := (t1.cell 3).trans rfl
  have p4 : W0.cell? ⟨w.heap.size, 4, none⟩ = some (.slice hA nh hc) := (t1.cell 4).trans rfl
  have p5 : W0.cell? ⟨w.heap.size, 5, none⟩ = some (.slice xA nx xc) := (t1.cell 5).trans rfl
  have f0 : W0.cell? ⟨w.heap.size + 1, 0, none⟩ = some (.int .i64 lo) := (t2.cell 0).trans rfl
  have f1 : W0.cell? ⟨w.heap.size + 1, 1, none⟩ = some (.slice kA nk kc) := (t2.cell 1).trans rfl
  have e1 : IntKind.i64.wrap ((nk : Int) + 1) = (nk : Int) + 1 := IntWalk.i64_in _ (by omega)
  have z0 : w.heap.size + 1 + 1 < W0.heap.size := t3.lt
  have T1 := Lib.hid t1; have T2 := Lib.hid t2; have T3 := Lib.hid t3; have T4 := Lib.hid t4
  clear t1 t2 t3 t4
  have KS : Hid (∀ X, Below W0.heap.size W0 X → X.cell? ⟨w.heap.size + 1, 0, none⟩ = some (.int .i64 lo) ∧ X.cell? ⟨w.heap.size + 1, 1, none⟩ = some (.slice kA nk kc) ∧ X.cell? ⟨w.heap.size, 0, none⟩ = some (.slice fA nf fc)) := by
    intro X hX
    exact ⟨(hX.cell (p := ⟨w.heap.size + 1, 0, none⟩) (by show _ < W0.heap.size; simp only; omega)).trans f0, (hX.cell (p := ⟨w.heap.size + 1, 1, none⟩) (by show _ < W0.heap.size; simp only; omega)).trans f1, (hX.cell (p := ⟨w.heap.size, 0, none⟩) (by show _ < W0.heap.size; simp only; omega)).trans p0⟩
  go_cut [5, 6, 7] (fun s5 s6 s7 wx => RCut3 W0 lo ((nk : Int) + 1) nf s5 s6 s7 wx)
  case first =>
    go_region_held3 (fun w' => w'.cell? ⟨w.heap.size + 1, 0, none⟩ = some (.int .i64 lo) ∧ w'.cell? ⟨w.heap.size + 1, 1, none⟩ = some (.slice kA nk kc) ∧ w'.cell? ⟨w.heap.size, 0, none⟩ = some (.slice fA nf fc))
      (first | (exact KS.out _ (three W0 _ _ _ _ _ _).2.2.2.drew) | (exact KS.out _ (three W0 _ _ _ _ _ _).2.2.2) | (exact KS.out _ (by repeat (first | exact Below.refl _ _ | refine Below.drew ?_ | refine Below.alloc ?_ (by first | exact Nat.le_refl _ | (simp; done) | (simp; omega) | omega) _))) | go_keep)
      ((go_simp; refine (below_any _ _).mono ?_; rintro e wq ⟨rfl, rfl⟩))
    all_goals
      go_wp2_with fail
      go_meet
      first
        | exact ⟨_, _, _, rfl, rfl, rfl, (three W0 3 3 3 _ _ _).1, (three W0 3 3 3 _ _ _).2.1, (three W0 3 3 3 _ _ _).2.2.1, (three W0 3 3 3 _ _ _).2.2.2⟩
        | exact ⟨_, _, _, rfl, rfl, rfl, (three W0 3 3 3 _ _ _).1.drew, (three W0 3 3 3 _ _ _).2.1.drew, (three W0 3 3 3 _ _ _).2.2.1.drew, (three W0 3 3 3 _ _ _).2.2.2.drew⟩
        | exact ⟨_, _, _, rfl, rfl, rfl, (three W0 3 3 3 _ _ _).1, (three W0 3 3 3 _ _ _).2.2.1, (three W0 3 3 3 _ _ _).2.1, (three W0 3 3 3 _ _ _).2.2.2⟩
        | exact ⟨_, _, _, rfl, rfl, rfl, (three W0 3 3 3 _ _ _).1.drew, (three W0 3 3 3 _ _ _).2.2.1.drew, (three W0 3 3 3 _ _ _).2.1.drew, (three W0 3 3 3 _ _ _).2.2.2.drew⟩
        | exact ⟨_, _, _, rfl, rfl, rfl, (three W0 3 3 3 _ _ _).2.1, (three W0 3 3 3 _ _ _).1, (three W0 3 3 3 _ _ _).2.2.1, (three W0 3 3 3 _ _ _).2.2.2⟩
        | exact ⟨_, _, _, rfl, rfl, rfl, (three W0 3 3 3 _ _ _).2.1.drew, (three W0 3 3 3 _ _ _).1.drew, (three W0 3 3 3 _ _ _).2.2.1.drew, (three W0 3 3 3 _ _ _).2.2.2.drew⟩
        | exact ⟨_, _, _, rfl, rfl, rfl, (three W0 3 3 3 _ _ _).2.1, (three W0 3 3 3 _ _ _).2.2.1, (three W0 3 3 3 _ _ _).1, (three W0 3 3 3 _ _ _).2.2.2⟩
        | exact ⟨_, _, _, rfl, rfl, rfl, (three W0 3 3 3 _ _ _).2.1.drew, (three W0 3 3 3 _ _ _).2.2.1.drew, (three W0 3 3 3 _ _ _).1.drew, (three W0 3 3 3 _ _ _).2.2.2.drew⟩
        | exact ⟨_, _, _, rfl, rfl, rfl, (three W0 3 3 3 _ _ _).2.2.1, (three W0 3 3 3 _ _ _).1, (three W0 3 3 3 _ _ _).2.1, (three W0 3 3 3 _ _ _).2.2.2⟩
        | exact ⟨_, _, _, rfl, rfl, rfl, (three W0 3 3 3 _ _ _).2.2.1.drew, (three W0 3 3 3 _ _ _).1.drew, (three W0 3 3 3 _ _ _).2.1.drew, (three W0 3 3 3 _ _ _).2.2.2.drew⟩
        | exact ⟨_, _, _, rfl, rfl, rfl, (three W0 3 3 3 _ _ _).2.2.1, (three W0 3 3 3 _ _ _).2.1, (three W0 3 3 3 _ _ _).1, (three W0 3 3 3 _ _ _).2.2.2⟩
        | exact ⟨_, _, _, rfl, rfl, rfl, (three W0 3 3 3 _ _ _).2.2.1.drew, (three W0 3 3 3 _ _ _).2.1.drew, (three W0 3 3 3 _ _ _).1.drew, (three W0 3 3 3 _ _ _).2.2.2.drew⟩
  case rest =>
    obtain ⟨g1, g2, g3, rfl, rfl, rfl, h1, h2, h3, hb1⟩ := hcut
    obtain ⟨W1, rfl⟩ : ∃ x, x = wc := ⟨_, rfl⟩
    have B1 := Lib.hid hb1; have H1 := Lib.hid h1; have H2 := Lib.hid h2; have H3 := Lib.hid h3
    have z1 := hb1.size
    clear h1 h2 h3 hb1 p0 p1 p2 p3 p4 p5 f0 f1 KS e1
    unfold clo
    have p0 : W1.cell? ⟨w.heap.size, 0, none⟩ = some (.slice fA nf fc) := ((T1.out.below B1.out (by omega)).cell 0).trans rfl
    have p1 : W1.cell? ⟨w.heap.size, 1, none⟩ = some (.int .i64 mu) := ((T1.out.below B1.out (by omega)).cell 1).trans rfl
    have p2 : W1.cell? ⟨w.heap.size, 2, none⟩ = some (.slice cA nc cc) := ((T1.out.below B1.out (by omega)).cell 2).trans rfl
    have p3 : W1.cell? ⟨w.heap.size, 3, none⟩ = some (.slice sA ns sc) := ((T1.out.below B1.out (by omega)).cell 3).trans rfl
    have p4 : W1.cell? ⟨w.heap.size, 4, none⟩ = some (.slice hA nh hc) := ((T1.out.below B1.out (by omega)).cell 4).trans rfl
    have p5 : W1.cell? ⟨w.heap.size, 5, none⟩ = some (.slice xA nx xc) := ((T1.out.below B1.out (by omega)).cell 5).trans rfl
    have f0 : W1.cell? ⟨w.heap.size + 1, 0, none⟩ = some (.int .i64 lo) := ((T2.out.below B1.out (by omega)).cell 0).trans rfl
    have f1 : W1.cell? ⟨w.heap.size + 1, 1, none⟩ = some (.slice kA nk kc) := ((T2.out.below B1.out (by omega)).cell 1).trans rfl
    go_upto_region 2 with fail
    have KS : Hid (∀ X, Below W1.heap.size W1 X → X.cell? ⟨w.heap.size, 1, none⟩ = some (.int .i64 mu) ∧ X.cell? ⟨w.heap.size, 2, none⟩ = some (.slice cA nc cc) ∧ X.cell? ⟨w.heap.size, 3, none⟩ = some (.slice sA ns sc)) := by
      intro X hX
      exact ⟨(hX.cell (p := ⟨w.heap.size, 1, none⟩) (by show _ < W1.heap.size; simp only; omega)).trans p1, (hX.cell (p := ⟨w.heap.size, 2, none⟩) (by show _ < W1.heap.size; simp only; omega)).trans p2, (hX.cell (p := ⟨w.heap.size, 3, none⟩) (by show _ < W1.heap.size; simp only; omega)).trans p3⟩
    go_cut [8, 9, 10] (fun s8 s9 s10 wx => RCut3 W1 mu nc ns s8 s9 s10 wx)
    case first =>
      go_region_held3 (fun w' => w'.cell? ⟨w.heap.size, 1, none⟩ = some (.int .i64 mu) ∧ w'.cell? ⟨w.heap.size, 2, none⟩ = some (.slice cA nc cc) ∧ w'.cell? ⟨w.heap.size, 3, none⟩ = some (.slice sA ns sc))
        (first | (exact KS.out _ (three W1 _ _ _ _ _ _).2.2.2.drew) | (exact KS.out _ (three W1 _ _ _ _ _ _).2.2.2) | (exact KS.out _ (by repeat (first | exact Below.refl _ _ | refine Below.drew ?_ | refine Below.alloc ?_ (by first | exact Nat.le_refl _ | (simp; done) | (simp; omega) | omega) _))) | go_keep)
        ((go_simp; refine (below_any _ _).mono ?_; rintro e wq ⟨rfl, rfl⟩))
      all_goals
        go_wp2_with fail
        go_meet
        first
          | exact ⟨_, _, _, rfl, rfl, rfl, (three W1 3 3 3 _ _ _).1, (three W1 3 3 3 _ _ _).2.1, (three W1 3 3 3 _ _ _).2.2.1, (three W1 3 3 3 _ _ _).2.2.2⟩
          | exact ⟨_, _, _, rfl, rfl, rfl, (three W1 3 3 3 _ _ _).1.drew, (three W1 3 3 3 _ _ _).2.1.drew, (three W1 3 3 3 _ _ _).2.2.1.drew, (three W1 3 3 3 _ _ _).2.2.2.drew⟩
          | exact ⟨_, _, _, rfl, rfl, rfl, (three W1 3 3 3 _ _ _).1, (three W1 3 3 3 _ _ _).2.2.1, (three W1 3 3 3 _ _ _).2.1, (three W1 3 3 3 _ _ _).2.2.2⟩
          | exact ⟨_, _, _, rfl, rfl, rfl, (three W1 3 3 3 _ _ _).1.drew, (three W1 3 3 3 _ _ _).2.2.1.drew, (three W1 3 3 3 _ _ _).2.1.drew, (three W1 3 3 3 _ _ _).2.2.2.drew⟩
          | exact ⟨_, _, _, rfl, rfl, rfl, (three W1 3 3 3 _ _ _).2.1, (three W1 3 3 3 _ _ _).1, (three W1 3 3 3 _ _ _).2.2.1, (three W1 3 3 3 _ _ _).2.2.2⟩
          | exact ⟨_, _, _, rfl, rfl, rfl, (three W1 3 3 3 _ _ _).2.1.drew, (three W1 3 3 3 _ _ _).1.drew, (three W1 3 3 3 _ _ _).2.2.1.drew, (three W1 3 3 3 _ _ _).2.2.2.drew⟩
          | exact ⟨_, _, _, rfl, rfl, rfl, (three W1 3 3 3 _ _ _).2.1, (three W1 3 3 3 _ _ _).2.2.1, (three W1 3 3 3 _ _ _).1, (three W1 3 3 3 _ _ _).2.2.2⟩
          | exact ⟨_, _, _, rfl, rfl, rfl, (three W1 3 3 3 _ _ _).2.1.drew, (three W1 3 3 3 _ _ _).2.2.1.drew, (three W1 3 3 3 _ _ _).1.drew, (three W1 3 3 3 _ _ _).2.2.2.drew⟩
          | exact ⟨_, _, _, rfl, rfl, rfl, (three W1 3 3 3 _ _ _).2.2.1, (three W1 3 3 3 _ _ _).1, (three W1 3 3 3 _ _ _).2.1, (three W1 3 3 3 _ _ _).2.2.2⟩
          | exact ⟨_, _, _, rfl, rfl, rfl, (three W1 3 3 3 _ _ _).2.2.1.drew, (three W1 3 3 3 _ _ _).1.drew, (three W1 3 3 3 _ _ _).2.1.drew, (three W1 3 3 3 _ _ _).2.2.2.drew⟩
          | exact ⟨_, _, _, rfl, rfl, rfl, (three W1 3 3 3 _ _ _).2.2.1, (three W1 3 3 3 _ _ _).2.1, (three W1 3 3 3 _ _ _).1, (three W1 3 3 3 _ _ _).2.2.2⟩
          | exact ⟨_, _, _, rfl, rfl, rfl, (three W1 3 3 3 _ _ _).2.2.1.drew, (three W1 3 3 3 _ _ _).2.1.drew, (three W1 3 3 3 _ _ _).1.drew, (three W1 3 3 3 _ _ _).2.2.2.drew⟩
    case rest =>
      obtain ⟨g4, g5, g6, rfl, rfl, rfl, h4, h5, h6, hb2⟩ := hcut
      obtain ⟨W2, rfl⟩ : ∃ x, x = wc := ⟨_, rfl⟩
      have B2 := Lib.hid hb2; have H4 := Lib.hid h4; have H5 := Lib.hid h5; have H6 := Lib.hid h6
      have z2 := hb2.size
      clear h4 h5 h6 hb2 p0 p1 p2 p3 p4 p5 f0 f1 KS
      unfold clo
      have p0 : W2.cell? ⟨w.heap.size, 0, none⟩ = some (.slice fA nf fc) := (((T1.out.below B1.out (by omega)).below B2.out (by omega)).cell 0).trans rfl
      have p1 : W2.cell? ⟨w.heap.size, 1, none⟩ = some (.int .i64 mu) := (((T1.out.below B1.out (by omega)).below B2.out (by omega)).cell 1).trans rfl
      have p2 : W2.cell? ⟨w.heap.size, 2, none⟩ = some (.slice cA nc cc) := (((T1.out.below B1.out (by omega)).below B2.out (by omega)).cell 2).trans rfl
      have p3 : W2.cell? ⟨w.heap.size, 3, none⟩ = some (.slice sA ns sc) := (((T1.out.below B1.out (by omega)).below B2.out (by omega)).cell 3).trans rfl
      have p4 : W2.cell? ⟨w.heap.size, 4, none⟩ = some (.slice hA nh hc) := (((T1.out.below B1.out (by omega)).below B2.out (by omega)).cell 4).trans rfl
      have p5 : W2.cell? ⟨w.heap.size, 5, none⟩ = some (.slice xA nx xc) := (((T1.out.below B1.out (by omega)).below B2.out (by omega)).cell 5).trans rfl
      have f0 : W2.cell? ⟨w.heap.size + 1, 0, none⟩ = some (.int .i64 lo) := (((T2.out.below B1.out (by omega)).below B2.out (by omega)).cell 0).trans rfl
      have f1 : W2.cell? ⟨w.heap.size + 1, 1, none⟩ = some (.slice kA nk kc) := (((T2.out.below B1.out (by omega)).below B2.out (by omega)).cell 1).trans rfl
      go_upto_region 3 with fail
      have KS : Hid (∀ X, Below W2.heap.size W2 X → X.cell? ⟨w.heap.size, 4, none⟩ = some (.slice hA nh hc) ∧ X.cell? ⟨w.heap.size, 5, none⟩ = some (.slice xA nx xc)) := by
        intro X hX
        exact ⟨(hX.cell (p := ⟨w.heap.size, 4, none⟩) (by show _ < W2.heap.size; simp only; omega)).trans p4, (hX.cell (p := ⟨w.heap.size, 5, none⟩) (by show _ < W2.heap.size; simp only; omega)).trans p5⟩
      go_cut [11, 12] (fun s11 s12 wx => RCut2 W2 nh nx s11 s12 wx)
      case first =>
        go_region_held3 (fun w' => w'.cell? ⟨w.heap.size, 4, none⟩ = some (.slice hA nh hc) ∧ w'.cell? ⟨w.heap.size, 5, none⟩ = some (.slice xA nx xc))
          (first | (exact KS.out _ (three W2 _ _ _ _ _ _).2.2.2.drew) | (exact KS.out _ (three W2 _ _ _ _ _ _).2.2.2) | (exact KS.out _ (by repeat (first | exact Below.refl _ _ | refine Below.drew ?_ | refine Below.alloc ?_ (by first | exact Nat.le_refl _ | (simp; done) | (simp; omega) | omega) _))) | go_keep)
          ((go_simp; refine (below_any _ _).mono ?_; rintro e wq ⟨rfl, rfl⟩))
        all_goals
          go_wp2_with fail
          go_meet
          first
            | exact ⟨_, _, rfl, rfl, (two W2 3 3 _ _).1, (two W2 3 3 _ _).2.1, (two W2 3 3 _ _).2.2⟩
            | exact ⟨_, _, rfl, rfl, (two W2 3 3 _ _).1.drew, (two W2 3 3 _ _).2.1.drew, (two W2 3 3 _ _).2.2.drew⟩
            | exact ⟨_, _, rfl, rfl, (two W2 3 3 _ _).2.1, (two W2 3 3 _ _).1, (two W2 3 3 _ _).2.2⟩
            | exact ⟨_, _, rfl, rfl, (two W2 3 3 _ _).2.1.drew, (two W2 3 3 _ _).1.drew, (two W2 3 3 _ _).2.2.drew⟩
      case rest =>
        obtain ⟨g7, g8, rfl, rfl, h7, h8, hb3⟩ := hcut
        obtain ⟨W3, rfl⟩ : ∃ x, x = wc := ⟨_, rfl⟩
        have B3 := Lib.hid hb3; have H7 := Lib.hid h7; have H8 := Lib.hid h8
        have z3 := hb3.size
        clear h7 h8 hb3 p0 p1 p2 p3 p4 p5 f0 f1 KS
        have hrb := ((T3.out.below B1.out (by omega)).below B2.out (by omega)).below B3.out (by omega)
        have HRB := Lib.hid hrb
        clear hrb
        unfold clo
        have hi : (Try.prog.info? 107).map (·.size) = some 27 := by kernel_rfl
        have HI := Lib.hid hi
        clear hi
        go_wp2_with (with_reducible refine wpList_store_row (o := ⟨none, .store 107 (.tmp 4) (.tmp 60), _, _, _, _⟩) rfl _ _ _ rfl (w.heap.size + 1 + 1) (ruleArr g1 g2 g3 g4 g5 g6 g7 g8) ?hx ?hy 107 (Array.replicate 27 Value.nilFunc) ?hg ?hi ?hold ?h1 ?h)
        case hx => rfl
        case hy => rfl
        case hg => exact HRB.out
        case hi => exact HI.out
        case hold => rfl
        case h1 => exact ruleArr_one ..
        have far : ∀ {g : Nat} {cs : Array Value}, Blk W3 g 3 cs → Blk (W3.setRow (w.heap.size + 1 + 1) (ruleArr g1 g2 g3 g4 g5 g6 g7 g8)) g 3 cs := fun hb =>
          (setRow_other _ _ _ _ (Blk.ne_ hb HRB.out (by decide))).trans hb
        have K1 := Lib.hid (far ((H1.out.below B2.out H1.out.lt).below B3.out (by have := H1.out.lt; omega)))
        have K2 := Lib.hid (far ((H2.out.below B2.out H2.out.lt).below B3.out (by have := H2.out.lt; omega)))
        have K3 := Lib.hid (far ((H3.out.below B2.out H3.out.lt).below B3.out (by have := H3.out.lt; omega)))
        have K4 := Lib.hid (far (H4.out.below B3.out H4.out.lt))
        have K5 := Lib.hid (far (H5.out.below B3.out H5.out.lt))
        have K6 := Lib.hid (far (H6.out.below B3.out H6.out.lt))
        have K7 := Lib.hid (far (H7.out))
        have K8 := Lib.hid (far (H8.out))
        have hb4 : Blk (W3.setRow (w.heap.size + 1 + 1) (ruleArr g1 g2 g3 g4 g5 g6 g7 g8)) (w.heap.size + 1 + 1) 107 (ruleArr g1 g2 g3 g4 g5 g6 g7 g8) := setRow_heap _ _ _ _ _ _ HRB.out
        have hbel : Below w.heap.size w (W3.setRow (w.heap.size + 1 + 1) (ruleArr g1 g2 g3 g4 g5 g6 g7 g8)) := by
          have h3 := ((T4.out.trans (B1.out.mono (by omega))).trans (B2.out.mono (by omega))).trans (B3.out.mono (by omega))
          exact ⟨h3.os, h3.tape, h3.output, by have := h3.size; simpa using this, fun k hk => (setRow_other _ _ _ _ (by omega)).trans (h3.block k hk)⟩
        generalize W3.setRow (w.heap.size + 1 + 1) (ruleArr g1 g2 g3 g4 g5 g6 g7 g8) = W4 at *
        refine bodyPost_ret (v := .agg (ruleArr g1 g2 g3 g4 g5 g6 g7 g8)) (results_cell_row rfl _ _ (w.heap.size + 1 + 1) 107 (ruleArr g1 g2 g3 g4 g5 g6 g7 g8) (0, 0) _ rfl hb4 Try.underlying107 rfl HI.out) rfl ⟨ruleArr g1 g2 g3 g4 g5 g6 g7 g8, rfl, rfl, ruleArr_at K1.out K2.out K3.out K4.out K5.out K6.out K7.out K8.out, hbel⟩
end Go.Proofs.Ytmjbfobjndiecaa
