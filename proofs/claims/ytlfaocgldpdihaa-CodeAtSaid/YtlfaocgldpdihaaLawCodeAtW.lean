/-
  The walk of CodeAt.
-/
import Derived.Test.YtlfaocgldpdihaaRows
import Derived.WalkKit
import Derived.ProofKit
import Derived.OpenShut
import Derived.ShutString
import Derived.ChangeOld
import Derived.Below
import Derived.Test.YtlfaocgldpdihaaGoodR
import Derived.Deep.RegionHeld3
import Derived.Deep.DeepCutAuto
import Derived.Deep.QuietTactic
import Derived.BigQuiet
import Derived.Test.YtlfaocgldpdihaaCLives
import Derived.Test.YtlfaocgldpdihaaCAt
import Derived.Test.YtlfaocgldpdihaaPrOpen
namespace Go.Proofs.Ytlfaocgldpdihaa.codeAt
open Go.ChangeShapes Go.WideShapes Go.ChangeAt Go.RowKit Go.Proofs.Ytlfaocgldpdihaa Go.Proofs.Ytlfaocgldpdihaa.Plain
open Go.ChangeMaps (open_string shut_string)
set_option linter.unusedVariables false


theorem bcell {W w1 : World} (hb : Below W.heap.size W w1) : (∀ b o, b < W.heap.size → w1.cell? ⟨b, o, none⟩ = W.cell? ⟨b, o, none⟩) ∧ (∀ b o, b < W.heap.size → w1.frozen? ⟨b, o, none⟩ = W.frozen? ⟨b, o, none⟩) :=
  ⟨fun b o h => hb.cell (p := ⟨b, o, none⟩) h, fun b o h => hb.frozen (p := ⟨b, o, none⟩) h⟩
/-- Behind the program's answer: it lies in a box of its own. -/
def AtCut (W : World) (o x : Int) (b : Bool) (s10 s11 : Value) (wx : World) : Prop :=
  ∃ bx, s10 = .pointer (some ⟨bx, 0, none⟩) ∧ s11 = .bool b ∧ W.heap.size ≤ bx ∧ Blk wx bx 80 #[.int .i64 o, .int .i64 x] ∧ Below W.heap.size W wx
def AtRel (W : World) (s : Value) (wr : World) : Prop := ∃ i : Nat, i ≤ 2 ∧ s = .int .i64 (i : Int) ∧ Below W.heap.size W wr
set_option maxRecDepth 100000 in
set_option maxHeartbeats 40000000 in
theorem walk (hd0 : PH) (q0 : PV) (a1 : Int) (a2 : Int) (w : World) (w0 : RP w w.heap.size hd0 q0 ∧ Fit q0 ∧ Lens q0) (w1 : (Lit.int .i64 a1).wf = true) (w2 : (Lit.int .i64 a2).wf = true) :
    Calls Try.prog 14 #[.agg #[.slice hd0.fA q0.funcs.length hd0.fc, .int .i64 q0.mutexes, .slice hd0.cA q0.conds.length hd0.cc, .slice hd0.sA q0.semas.length hd0.sc, .slice hd0.hA q0.chans.length hd0.hc, .slice hd0.xA q0.choices.length hd0.xc, .int .i64 q0.threads], .int .i64 a1, .int .i64 a2] w fun e w' => e = .returned (.bool true) ∧ Below w.heap.size w w' := by
  obtain ⟨hrp, hfit, hlen⟩ := w0
  have b1 := bounds_i64 w1
  have b2 := bounds_i64 w2
  have HR := Lib.hid hrp; have HF := Lib.hid hfit; have HL := Lib.hid hlen
  clear hrp hfit hlen w1 w2
  go_enter Try.func14, Try.ntmps14
  go_wp2_with fail
  refine (good_any hd0 q0 _ w.heap.size (HR.out.alloc (Nat.le_refl _) _) (by simp) HF.out).mono ?_
  rintro e w1 hm
  obtain ⟨hg, rfl, hrp, hb⟩ := hm.rp
  have hgl := good_lens q0
  have hgn := good_funcs_len q0
  have hgc := good_code_len q0
  clear hm
  generalize good q0 = g at *
  obtain ⟨fA, fc, cA, cc, sA, sc, hA, hc, xA, xc⟩ := hg
  simp only at hrp ⊢
  have HRP := Lib.hid hrp; have HB := Lib.hid hb; have HGL := Lib.hid hgl; have HGC := Lib.hid hgc
  have z1 : w.heap.size + 1 ≤ w1.heap.size := by have := hb.size; simpa using this
  clear hrp hb hgl hgc
  go_wp2_with fail
  refine (around_any a1 _ _ b1.1 b1.2 (by omega) (by omega)).mono ?_
  rintro e wx ⟨rfl, rfl⟩
  have har := around_bd a1 g.funcs.length (by omega)
  generalize around a1 g.funcs.length = ar at *
  go_wp2_with fail
  obtain ⟨T1, T2, T3⟩ := two w1 64 3 #[.slice fA g.funcs.length fc, .int .i64 g.mutexes, .slice cA g.conds.length cc, .slice sA g.semas.length sc, .slice hA g.chans.length hc, .slice xA g.choices.length xc, .int .i64 g.threads] #[.int .i64 a1, .int .i64 ar]
  obtain ⟨W2, hW2⟩ : ∃ W, W = (w1.alloc (.cells #[.slice fA g.funcs.length fc, .int .i64 g.mutexes, .slice cA g.conds.length cc, .slice sA g.semas.length sc, .slice hA g.chans.length hc, .slice xA g.choices.length xc, .int .i64 g.threads] 64)).alloc (.cells #[.int .i64 a1, .int .i64 ar] 3) := ⟨_, rfl⟩
  rw [← hW2] at T1 T2 T3 ⊢
  clear hW2
  have z2 : w1.heap.size + 1 < W2.heap.size := T2.lt
  have KS : Hid (∀ X, Below W2.heap.size W2 X → X.cell? ⟨w1.heap.size, 0, none⟩ = some (.slice fA g.funcs.length fc) ∧ X.cell? ⟨w1.heap.size, 1, none⟩ = some (.int .i64 g.mutexes) ∧ X.cell? ⟨w1.heap.size, 2, none⟩ = some (.slice cA g.conds.length cc) ∧ X.cell? ⟨w1.heap.size, 3, none⟩ = some (.slice sA g.semas.length sc) ∧ X.cell? ⟨w1.heap.size, 4, none⟩ = some (.slice hA g.chans.length hc) ∧ X.cell? ⟨w1.heap.size, 5, none⟩ = some (.slice xA g.choices.length xc) ∧ X.cell? ⟨w1.heap.size, 6, none⟩ = some (.int .i64 g.threads) ∧ X.cell? ⟨w1.heap.size + 1, 0, none⟩ = some (.int .i64 a1) ∧ X.cell? ⟨w1.heap.size + 1, 1, none⟩ = some (.int .i64 ar)) := by
    intro X hX
    exact ⟨(hX.cell (p := ⟨w1.heap.size, 0, none⟩) (show w1.heap.size < W2.heap.size by omega)).trans ((T1.cell 0).trans rfl), (hX.cell (p := ⟨w1.heap.size, 1, none⟩) (show w1.heap.size < W2.heap.size by omega)).trans ((T1.cell 1).trans rfl), (hX.cell (p := ⟨w1.heap.size, 2, none⟩) (show w1.heap.size < W2.heap.size by omega)).trans ((T1.cell 2).trans rfl), (hX.cell (p := ⟨w1.heap.size, 3, none⟩) (show w1.heap.size < W2.heap.size by omega)).trans ((T1.cell 3).trans rfl), (hX.cell (p := ⟨w1.heap.size, 4, none⟩) (show w1.heap.size < W2.heap.size by omega)).trans ((T1.cell 4).trans rfl), (hX.cell (p := ⟨w1.heap.size, 5, none⟩) (show w1.heap.size < W2.heap.size by omega)).trans ((T1.cell 5).trans rfl), (hX.cell (p := ⟨w1.heap.size, 6, none⟩) (show w1.heap.size < W2.heap.size by omega)).trans ((T1.cell 6).trans rfl), (hX.cell (p := ⟨w1.heap.size + 1, 0, none⟩) z2).trans ((T2.cell 0).trans rfl), (hX.cell (p := ⟨w1.heap.size + 1, 1, none⟩) z2).trans ((T2.cell 1).trans rfl)⟩
  have RPX : Hid (∀ X, Below W2.heap.size W2 X → RP X w1.heap.size ⟨fA, fc, cA, cc, sA, sc, hA, hc, xA, xc⟩ g) := fun X hX => HRP.out.below (T3.trans (hX.mono (by omega)))
  have BW : Hid (∀ X, Below W2.heap.size W2 X → Below w.heap.size w X) := fun X hX => ((((Below.refl _ _).alloc (Nat.le_refl _) _).trans (HB.out.mono (by simp))).trans (T3.mono (by omega))).trans (hX.mono (by omega))
  have ATX : Hid (∀ (f : Int) (V : Value), (-9223372036854775808 ≤ f ∧ f ≤ 9223372036854775807) → atV (atP g f a2) = V → ∀ X, Below W2.heap.size W2 X → Calls Try.prog 57 #[.agg #[.slice fA g.funcs.length fc, .int .i64 g.mutexes, .slice cA g.conds.length cc, .slice sA g.semas.length sc, .slice hA g.chans.length hc, .slice xA g.choices.length xc, .int .i64 g.threads], .int .i64 f, .int .i64 a2] X fun e w' => e = .returned V ∧ Below X.heap.size X w' ∧ Below W2.heap.size W2 w') := fun f V hf hV X hX =>
    (at_any ⟨fA, fc, cA, cc, sA, sc, hA, hc, xA, xc⟩ g X w1.heap.size (RPX.out X hX) (by have := hX.size; omega) HGL.out f a2 hf b2).mono fun e w' ⟨he, hb⟩ => ⟨by rw [he, hV], hb, hX.trans (hb.mono hX.size)⟩
  clear T1 T2 T3
  go_loopw [9] (fun s wr => AtRel W2 s wr) (fun s _ => 2 - (intOf s).toNat)
  case atStart => exact ⟨0, by omega, rfl, Below.refl _ _⟩
  case round =>
    obtain ⟨i, hi, rfl, hbel⟩ := hrel
    have HBR := Lib.hid hbel
    have zr := hbel.size
    by_cases hi2 : i < 2
    · have hi01 : i = 0 ∨ i = 1 := by omega
      rcases hi01 with rfl | rfl
      · obtain ⟨p0, p1, p2, p3, p4, p5, p6, q0, q1⟩ := KS.out wr hbel
        have hbq := hbel
        clear hbel hi2 hi
        have hfi : -9223372036854775808 ≤ a1 ∧ a1 ≤ 9223372036854775807 := by omega
        by_cases hneg : a1 < 0
        · have hat : atV (atP g a1 a2) = .tuple #[.agg #[.int .i64 0, .int .i64 0], .bool false] := by unfold atP; rw [if_pos (.inl hneg)]; rfl
          have AT1 := Lib.hid (ATX.out a1 _ hfi hat)
          clear hat
          go_upto_region 6 with fail
          go_cut [10, 11] (fun s10 s11 wx => AtCut W2 0 0 false s10 s11 wx)
          case first =>
            go_region_held3 (fun w' => w'.cell? ⟨w1.heap.size, 0, none⟩ = some (.slice fA g.funcs.length fc) ∧ w'.cell? ⟨w1.heap.size, 1, none⟩ = some (.int .i64 g.mutexes) ∧ w'.cell? ⟨w1.heap.size, 2, none⟩ = some (.slice cA g.conds.length cc) ∧ w'.cell? ⟨w1.heap.size, 3, none⟩ = some (.slice sA g.semas.length sc) ∧ w'.cell? ⟨w1.heap.size, 4, none⟩ = some (.slice hA g.chans.length hc) ∧ w'.cell? ⟨w1.heap.size, 5, none⟩ = some (.slice xA g.choices.length xc) ∧ w'.cell? ⟨w1.heap.size, 6, none⟩ = some (.int .i64 g.threads) ∧ w'.cell? ⟨w1.heap.size + 1, 0, none⟩ = some (.int .i64 a1) ∧ w'.cell? ⟨w1.heap.size + 1, 1, none⟩ = some (.int .i64 ar))
              (first | (exact KS.out _ (by repeat (first | assumption | exact Below.refl _ _ | refine Below.drew ?_ | refine Below.setCell ?_ (by first | exact zr | (simp; omega) | omega) _ | refine Below.alloc ?_ (by first | exact zr | exact hbq.size | (simp; omega) | omega) _))))
              ((go_simp; refine (AT1.out _ (by repeat (first | assumption | exact Below.refl _ _ | refine Below.drew ?_ | refine Below.setCell ?_ (by first | exact zr | (simp; omega) | omega) _ | refine Below.alloc ?_ (by first | exact zr | exact hbq.size | (simp; omega) | omega) _))).mono ?_; rintro e wq ⟨rfl, h4, hbq⟩
                obtain ⟨hcc, hff⟩ := bcell h4
                have hzz := h4.size
                simp at hzz))
            all_goals
              go_wp2_with fail
              go_meet
              refine ⟨_, rfl, rfl, ?_, ?_, ?_⟩
              · first | exact hbq.size | exact zr | omega
              · first | exact Blk.new _ _ _ | exact (Blk.new _ _ _).drew | exact ((Blk.new _ _ _).below h4 (by simp)) | (simpa using ((((Blk.new wr 80 #[.int .i64 0, .int .i64 0]).below h4 (by simp)).set_ 0 (.int .i64 (0))).set_ 1 (.int .i64 (0)))) | (simpa using (((((Blk.new wr 80 #[.int .i64 0, .int .i64 0]).drew).below h4 (by simp)).set_ 0 (.int .i64 (0))).set_ 1 (.int .i64 (0))))
              · exact (by repeat (first | assumption | exact Below.refl _ _ | refine Below.drew ?_ | refine Below.setCell ?_ (by first | exact zr | (simp; omega) | omega) _ | refine Below.alloc ?_ (by first | exact zr | exact hbq.size | (simp; omega) | omega) _))
          case rest =>
            obtain ⟨bx, rfl, rfl, hbx, hbk, hbc⟩ := hcut
            obtain ⟨p0, p1, p2, p3, p4, p5, p6, q0, q1⟩ := KS.out (wc.alloc (.cells #[.int .i64 0, .int .i64 0] 80)) (hbc.alloc hbc.size _)
            have zc1 : w1.heap.size + 1 < wc.heap.size := by have := hbc.size; omega
            have zc0 : w1.heap.size < wc.heap.size := by omega
            have x0 := (hbk.cell 0).trans rfl
            have x1 := (hbk.cell 1).trans rfl
            have zb := hbk.lt
            have zc := hbc.size
            have HBC := Lib.hid hbc
            have dn : decide (0 ≤ a1) = false := by simp; omega
            clear hbk hbc
            go_wp2_with fail
            go_quiet (fail)
            go_wp2_with fail
            exact ⟨⟨1, by omega, rfl, by repeat (first | exact HBC.out.alloc zc _ | refine below_drews ?_ _)⟩, by simp [intOf]⟩
        · by_cases hge : (g.funcs.length : Int) ≤ a1
          · have hat : atV (atP g a1 a2) = .tuple #[.agg #[.int .i64 0, .int .i64 0], .bool false] := by
              unfold atP
              split
              · rfl
              · rw [List.getElem?_eq_none (by omega)]; rfl
            have AT1 := Lib.hid (ATX.out a1 _ hfi hat)
            clear hat
            go_upto_region 6 with fail
            go_cut [10, 11] (fun s10 s11 wx => AtCut W2 0 0 false s10 s11 wx)
            case first =>
              go_region_held3 (fun w' => w'.cell? ⟨w1.heap.size, 0, none⟩ = some (.slice fA g.funcs.length fc) ∧ w'.cell? ⟨w1.heap.size, 1, none⟩ = some (.int .i64 g.mutexes) ∧ w'.cell? ⟨w1.heap.size, 2, none⟩ = some (.slice cA g.conds.length cc) ∧ w'.cell? ⟨w1.heap.size, 3, none⟩ = some (.slice sA g.semas.length sc) ∧ w'.cell? ⟨w1.heap.size, 4, none⟩ = some (.slice hA g.chans.length hc) ∧ w'.cell? ⟨w1.heap.size, 5, none⟩ = some (.slice xA g.choices.length xc) ∧ w'.cell? ⟨w1.heap.size, 6, none⟩ = some (.int .i64 g.threads) ∧ w'.cell? ⟨w1.heap.size + 1, 0, none⟩ = some (.int .i64 a1) ∧ w'.cell? ⟨w1.heap.size + 1, 1, none⟩ = some (.int .i64 ar))
                (first | (exact KS.out _ (by repeat (first | assumption | exact Below.refl _ _ | refine Below.drew ?_ | refine Below.setCell ?_ (by first | exact zr | (simp; omega) | omega) _ | refine Below.alloc ?_ (by first | exact zr | exact hbq.size | (simp; omega) | omega) _))))
                ((go_simp; refine (AT1.out _ (by repeat (first | assumption | exact Below.refl _ _ | refine Below.drew ?_ | refine Below.setCell ?_ (by first | exact zr | (simp; omega) | omega) _ | refine Below.alloc ?_ (by first | exact zr | exact hbq.size | (simp; omega) | omega) _))).mono ?_; rintro e wq ⟨rfl, h4, hbq⟩
                  obtain ⟨hcc, hff⟩ := bcell h4
                  have hzz := h4.size
                  simp at hzz))
              all_goals
                go_wp2_with fail
                go_meet
                refine ⟨_, rfl, rfl, ?_, ?_, ?_⟩
                · first | exact hbq.size | exact zr | omega
                · first | exact Blk.new _ _ _ | exact (Blk.new _ _ _).drew | exact ((Blk.new _ _ _).below h4 (by simp)) | (simpa using ((((Blk.new wr 80 #[.int .i64 0, .int .i64 0]).below h4 (by simp)).set_ 0 (.int .i64 (0))).set_ 1 (.int .i64 (0)))) | (simpa using (((((Blk.new wr 80 #[.int .i64 0, .int .i64 0]).drew).below h4 (by simp)).set_ 0 (.int .i64 (0))).set_ 1 (.int .i64 (0))))
                · exact (by repeat (first | assumption | exact Below.refl _ _ | refine Below.drew ?_ | refine Below.setCell ?_ (by first | exact zr | (simp; omega) | omega) _ | refine Below.alloc ?_ (by first | exact zr | exact hbq.size | (simp; omega) | omega) _))
            case rest =>
              obtain ⟨bx, rfl, rfl, hbx, hbk, hbc⟩ := hcut
              obtain ⟨p0, p1, p2, p3, p4, p5, p6, q0, q1⟩ := KS.out (wc.alloc (.cells #[.int .i64 0, .int .i64 0] 80)) (hbc.alloc hbc.size _)
              have zc1 : w1.heap.size + 1 < wc.heap.size := by have := hbc.size; omega
              have zc0 : w1.heap.size < wc.heap.size := by omega
              have x0 := (hbk.cell 0).trans rfl
              have x1 := (hbk.cell 1).trans rfl
              have zb := hbk.lt
              have zc := hbc.size
              have HBC := Lib.hid hbc
              have dn : 0 ≤ a1 := by omega
              clear hbk hbc
              go_wp2_with fail
              go_quiet (fail)
              go_wp2_with fail
              exact ⟨⟨1, by omega, rfl, by repeat (first | exact HBC.out.alloc zc _ | refine below_drews ?_ _)⟩, by simp [intOf]⟩
          · obtain ⟨k, rfl⟩ := Int.eq_ofNat_of_zero_le (show 0 ≤ a1 by omega)
            have hk : k < g.funcs.length := by omega
            have hfn := (RPX.out W2 (Below.refl _ _)).funcs
            simp only at hfn
            obtain ⟨ad, t, rfl, hab, htk, hc0, hc1, hrc⟩ := hfn.at_ hk
            have hat0 : atP g (k : Int) a2 = if a2 < 0 then none else t.f.code[a2.toNat]? := by
              unfold atP
              rw [show ((k : Int)).toNat = k by omega, htk]
              by_cases hn : a2 < 0
              · rw [if_pos (.inr hn), if_pos hn]
              · rw [if_neg (by omega), if_neg hn]; rfl
            have hcl := HGC.out _ (List.mem_of_getElem? htk)
            have HC1 : Hid (∀ X, Below W2.heap.size W2 X → X.cell? ⟨(ad.add (k * 2)).block, (ad.add (k * 2)).off + 1, none⟩ = some (.slice t.A t.f.code.length t.c)) := fun X hX => (hX.cell (p := ⟨(ad.add (k * 2)).block, (ad.add (k * 2)).off + 1, none⟩) (by show (ad.add (k * 2)).block < _; rw [block_of_add]; omega)).trans hc1
            have HHR := Lib.hid hrc
            have i1 : (k : Int) < (g.funcs.length : Int) := by omega
            have i2 : (0 : Int) ≤ (k : Int) := by omega
            clear hfn htk hc0 hc1 hrc
            by_cases hn : a2 < 0
            · have hat : atV (atP g (k : Int) a2) = .tuple #[.agg #[.int .i64 0, .int .i64 0], .bool false] := by rw [hat0, if_pos hn]; rfl
              clear hat0
              have AT1 := Lib.hid (ATX.out (k : Int) _ hfi hat)
              clear hat
              go_upto_region 6 with fail
              go_cut [10, 11] (fun s10 s11 wx => AtCut W2 0 0 false s10 s11 wx)
              case first =>
                go_region_held3 (fun w' => w'.cell? ⟨w1.heap.size, 0, none⟩ = some (.slice (some ad) g.funcs.length fc) ∧ w'.cell? ⟨w1.heap.size, 1, none⟩ = some (.int .i64 g.mutexes) ∧ w'.cell? ⟨w1.heap.size, 2, none⟩ = some (.slice cA g.conds.length cc) ∧ w'.cell? ⟨w1.heap.size, 3, none⟩ = some (.slice sA g.semas.length sc) ∧ w'.cell? ⟨w1.heap.size, 4, none⟩ = some (.slice hA g.chans.length hc) ∧ w'.cell? ⟨w1.heap.size, 5, none⟩ = some (.slice xA g.choices.length xc) ∧ w'.cell? ⟨w1.heap.size, 6, none⟩ = some (.int .i64 g.threads) ∧ w'.cell? ⟨w1.heap.size + 1, 0, none⟩ = some (.int .i64 (k : Int)) ∧ w'.cell? ⟨w1.heap.size + 1, 1, none⟩ = some (.int .i64 ar))
                  (first | (exact KS.out _ (by repeat (first | assumption | exact Below.refl _ _ | refine Below.drew ?_ | refine Below.setCell ?_ (by first | exact zr | (simp; omega) | omega) _ | refine Below.alloc ?_ (by first | exact zr | exact hbq.size | (simp; omega) | omega) _))))
                  ((go_simp; refine (AT1.out _ (by repeat (first | assumption | exact Below.refl _ _ | refine Below.drew ?_ | refine Below.setCell ?_ (by first | exact zr | (simp; omega) | omega) _ | refine Below.alloc ?_ (by first | exact zr | exact hbq.size | (simp; omega) | omega) _))).mono ?_; rintro e wq ⟨rfl, h4, hbq⟩
                    obtain ⟨hcc, hff⟩ := bcell h4
                    have hzz := h4.size
                    simp at hzz))
                all_goals
                  go_wp2_with fail
                  go_meet
                  refine ⟨_, rfl, rfl, ?_, ?_, ?_⟩
                  · first | exact hbq.size | exact zr | omega
                  · first | exact Blk.new _ _ _ | exact (Blk.new _ _ _).drew | exact ((Blk.new _ _ _).below h4 (by simp)) | (simpa using ((((Blk.new wr 80 #[.int .i64 0, .int .i64 0]).below h4 (by simp)).set_ 0 (.int .i64 (0))).set_ 1 (.int .i64 (0)))) | (simpa using (((((Blk.new wr 80 #[.int .i64 0, .int .i64 0]).drew).below h4 (by simp)).set_ 0 (.int .i64 (0))).set_ 1 (.int .i64 (0))))
                  · exact (by repeat (first | assumption | exact Below.refl _ _ | refine Below.drew ?_ | refine Below.setCell ?_ (by first | exact zr | (simp; omega) | omega) _ | refine Below.alloc ?_ (by first | exact zr | exact hbq.size | (simp; omega) | omega) _))
              case rest =>
                obtain ⟨bx, rfl, rfl, hbx, hbk, hbc⟩ := hcut
                obtain ⟨p0, p1, p2, p3, p4, p5, p6, q0, q1⟩ := KS.out (wc.alloc (.cells #[.int .i64 0, .int .i64 0] 80)) (hbc.alloc hbc.size _)
                have zc1 : w1.heap.size + 1 < wc.heap.size := by have := hbc.size; omega
                have zc0 : w1.heap.size < wc.heap.size := by omega
                have x0 := (hbk.cell 0).trans rfl
                have x1 := (hbk.cell 1).trans rfl
                have zb := hbk.lt
                have zc := hbc.size
                have HBC := Lib.hid hbc
                have c1 := HC1.out (wc.alloc (.cells #[.int .i64 0, .int .i64 0] 80)) (hbc.alloc hbc.size _)
                clear hbk hbc
                go_wp2_with fail
                go_quiet (fail)
                go_wp2_with fail
                go_quiet (fail)
                go_wp2_with fail
                exact ⟨⟨1, by omega, rfl, by repeat (first | exact HBC.out.alloc zc _ | refine below_drews ?_ _)⟩, by simp [intOf]⟩
            · by_cases hge : (t.f.code.length : Int) ≤ a2
              · have hat : atV (atP g (k : Int) a2) = .tuple #[.agg #[.int .i64 0, .int .i64 0], .bool false] := by rw [hat0, if_neg hn, List.getElem?_eq_none (by omega)]; rfl
                clear hat0
                have AT1 := Lib.hid (ATX.out (k : Int) _ hfi hat)
                clear hat
                go_upto_region 6 with fail
                go_cut [10, 11] (fun s10 s11 wx => AtCut W2 0 0 false s10 s11 wx)
                case first =>
                  go_region_held3 (fun w' => w'.cell? ⟨w1.heap.size, 0, none⟩ = some (.slice (some ad) g.funcs.length fc) ∧ w'.cell? ⟨w1.heap.size, 1, none⟩ = some (.int .i64 g.mutexes) ∧ w'.cell? ⟨w1.heap.size, 2, none⟩ = some (.slice cA g.conds.length cc) ∧ w'.cell? ⟨w1.heap.size, 3, none⟩ = some (.slice sA g.semas.length sc) ∧ w'.cell? ⟨w1.heap.size, 4, none⟩ = some (.slice hA g.chans.length hc) ∧ w'.cell? ⟨w1.heap.size, 5, none⟩ = some (.slice xA g.choices.length xc) ∧ w'.cell? ⟨w1.heap.size, 6, none⟩ = some (.int .i64 g.threads) ∧ w'.cell? ⟨w1.heap.size + 1, 0, none⟩ = some (.int .i64 (k : Int)) ∧ w'.cell? ⟨w1.heap.size + 1, 1, none⟩ = some (.int .i64 ar))
                    (first | (exact KS.out _ (by repeat (first | assumption | exact Below.refl _ _ | refine Below.drew ?_ | refine Below.setCell ?_ (by first | exact zr | (simp; omega) | omega) _ | refine Below.alloc ?_ (by first | exact zr | exact hbq.size | (simp; omega) | omega) _))))
                    ((go_simp; refine (AT1.out _ (by repeat (first | assumption | exact Below.refl _ _ | refine Below.drew ?_ | refine Below.setCell ?_ (by first | exact zr | (simp; omega) | omega) _ | refine Below.alloc ?_ (by first | exact zr | exact hbq.size | (simp; omega) | omega) _))).mono ?_; rintro e wq ⟨rfl, h4, hbq⟩
                      obtain ⟨hcc, hff⟩ := bcell h4
                      have hzz := h4.size
                      simp at hzz))
                  all_goals
                    go_wp2_with fail
                    go_meet
                    refine ⟨_, rfl, rfl, ?_, ?_, ?_⟩
                    · first | exact hbq.size | exact zr | omega
                    · first | exact Blk.new _ _ _ | exact (Blk.new _ _ _).drew | exact ((Blk.new _ _ _).below h4 (by simp)) | (simpa using ((((Blk.new wr 80 #[.int .i64 0, .int .i64 0]).below h4 (by simp)).set_ 0 (.int .i64 (0))).set_ 1 (.int .i64 (0)))) | (simpa using (((((Blk.new wr 80 #[.int .i64 0, .int .i64 0]).drew).below h4 (by simp)).set_ 0 (.int .i64 (0))).set_ 1 (.int .i64 (0))))
                    · exact (by repeat (first | assumption | exact Below.refl _ _ | refine Below.drew ?_ | refine Below.setCell ?_ (by first | exact zr | (simp; omega) | omega) _ | refine Below.alloc ?_ (by first | exact zr | exact hbq.size | (simp; omega) | omega) _))
                case rest =>
                  obtain ⟨bx, rfl, rfl, hbx, hbk, hbc⟩ := hcut
                  obtain ⟨p0, p1, p2, p3, p4, p5, p6, q0, q1⟩ := KS.out (wc.alloc (.cells #[.int .i64 0, .int .i64 0] 80)) (hbc.alloc hbc.size _)
                  have zc1 : w1.heap.size + 1 < wc.heap.size := by have := hbc.size; omega
                  have zc0 : w1.heap.size < wc.heap.size := by omega
                  have x0 := (hbk.cell 0).trans rfl
                  have x1 := (hbk.cell 1).trans rfl
                  have zb := hbk.lt
                  have zc := hbc.size
                  have HBC := Lib.hid hbc
                  have c1 := HC1.out (wc.alloc (.cells #[.int .i64 0, .int .i64 0] 80)) (hbc.alloc hbc.size _)
                  clear hbk hbc
                  go_wp2_with fail
                  go_quiet (fail)
                  go_wp2_with fail
                  go_quiet (fail)
                  go_wp2_with fail
                  exact ⟨⟨1, by omega, rfl, by repeat (first | exact HBC.out.alloc zc _ | refine below_drews ?_ _)⟩, by simp [intOf]⟩
              · obtain ⟨j, rfl⟩ := Int.eq_ofNat_of_zero_le (show 0 ≤ a2 by omega)
                have hj : j < t.f.code.length := by omega
                have i3 : (j : Int) < (t.f.code.length : Int) := by omega
                have i4 : (0 : Int) ≤ (j : Int) := by omega
                obtain ⟨ad2, i, htA, hab2, hij, he0, he1⟩ := HHR.out.at_ hj
                have hat : atV (atP g (k : Int) (j : Int)) = .tuple #[.agg #[.int .i64 i.op, .int .i64 i.a], .bool true] := by rw [hat0, if_neg hn, show ((j : Int)).toNat = j by omega, hij]; rfl
                rw [htA] at HC1
                clear hat0 hij htA hn hge
                have AT1 := Lib.hid (ATX.out (k : Int) _ hfi hat)
                clear hat
                go_upto_region 6 with fail
                go_cut [10, 11] (fun s10 s11 wx => AtCut W2 i.op i.a true s10 s11 wx)
                case first =>
                  go_region_held3 (fun w' => w'.cell? ⟨w1.heap.size, 0, none⟩ = some (.slice (some ad) g.funcs.length fc) ∧ w'.cell? ⟨w1.heap.size, 1, none⟩ = some (.int .i64 g.mutexes) ∧ w'.cell? ⟨w1.heap.size, 2, none⟩ = some (.slice cA g.conds.length cc) ∧ w'.cell? ⟨w1.heap.size, 3, none⟩ = some (.slice sA g.semas.length sc) ∧ w'.cell? ⟨w1.heap.size, 4, none⟩ = some (.slice hA g.chans.length hc) ∧ w'.cell? ⟨w1.heap.size, 5, none⟩ = some (.slice xA g.choices.length xc) ∧ w'.cell? ⟨w1.heap.size, 6, none⟩ = some (.int .i64 g.threads) ∧ w'.cell? ⟨w1.heap.size + 1, 0, none⟩ = some (.int .i64 (k : Int)) ∧ w'.cell? ⟨w1.heap.size + 1, 1, none⟩ = some (.int .i64 ar))
                    (first | (exact KS.out _ (by repeat (first | assumption | exact Below.refl _ _ | refine Below.drew ?_ | refine Below.setCell ?_ (by first | exact zr | (simp; omega) | omega) _ | refine Below.alloc ?_ (by first | exact zr | exact hbq.size | (simp; omega) | omega) _))))
                    ((go_simp; refine (AT1.out _ (by repeat (first | assumption | exact Below.refl _ _ | refine Below.drew ?_ | refine Below.setCell ?_ (by first | exact zr | (simp; omega) | omega) _ | refine Below.alloc ?_ (by first | exact zr | exact hbq.size | (simp; omega) | omega) _))).mono ?_; rintro e wq ⟨rfl, h4, hbq⟩
                      obtain ⟨hcc, hff⟩ := bcell h4
                      have hzz := h4.size
                      simp at hzz))
                  all_goals
                    go_wp2_with fail
                    go_meet
                    refine ⟨_, rfl, rfl, ?_, ?_, ?_⟩
                    · first | exact hbq.size | exact zr | omega
                    · first | exact Blk.new _ _ _ | exact (Blk.new _ _ _).drew | exact ((Blk.new _ _ _).below h4 (by simp)) | (simpa using ((((Blk.new wr 80 #[.int .i64 0, .int .i64 0]).below h4 (by simp)).set_ 0 (.int .i64 (i.op))).set_ 1 (.int .i64 (i.a)))) | (simpa using (((((Blk.new wr 80 #[.int .i64 0, .int .i64 0]).drew).below h4 (by simp)).set_ 0 (.int .i64 (i.op))).set_ 1 (.int .i64 (i.a))))
                    · exact (by repeat (first | assumption | exact Below.refl _ _ | refine Below.drew ?_ | refine Below.setCell ?_ (by first | exact zr | (simp; omega) | omega) _ | refine Below.alloc ?_ (by first | exact zr | exact hbq.size | (simp; omega) | omega) _))
                case rest =>
                  obtain ⟨bx, rfl, rfl, hbx, hbk, hbc⟩ := hcut
                  obtain ⟨p0, p1, p2, p3, p4, p5, p6, q0, q1⟩ := KS.out (wc.alloc (.cells #[.int .i64 0, .int .i64 0] 80)) (hbc.alloc hbc.size _)
                  have zc1 : w1.heap.size + 1 < wc.heap.size := by have := hbc.size; omega
                  have zc0 : w1.heap.size < wc.heap.size := by omega
                  have x0 := (hbk.cell 0).trans rfl
                  have x1 := (hbk.cell 1).trans rfl
                  have zb := hbk.lt
                  have zc := hbc.size
                  have HBC := Lib.hid hbc
                  have c1 := HC1.out (wc.alloc (.cells #[.int .i64 0, .int .i64 0] 80)) (hbc.alloc hbc.size _)
                  have d0 := ((hbc.alloc hbc.size (.cells #[.int .i64 0, .int .i64 0] 80)).cell (p := ad2.add (j * 2)) (by rw [block_of_add]; omega)).trans he0
                  have d1 := ((hbc.alloc hbc.size (.cells #[.int .i64 0, .int .i64 0] 80)).cell (p := ⟨(ad2.add (j * 2)).block, (ad2.add (j * 2)).off + 1, none⟩) (by show (ad2.add (j * 2)).block < _; rw [block_of_add]; omega)).trans he1
                  clear hbk hbc
                  go_wp2_with fail
                  go_quiet (fail)
                  go_wp2_with fail
                  go_quiet (fail)
                  go_wp2_with fail
                  exact ⟨⟨1, by omega, rfl, by repeat (first | exact HBC.out.alloc zc _ | refine below_drews ?_ _ | refine Below.setCell ?_ (by first | exact zc | (simp; omega) | omega) _)⟩, by simp [intOf]⟩
      · obtain ⟨p0, p1, p2, p3, p4, p5, p6, q0, q1⟩ := KS.out wr hbel
        have hbq := hbel
        clear hbel hi2 hi
        have hfi : -9223372036854775808 ≤ ar ∧ ar ≤ 9223372036854775807 := by omega
        obtain ⟨k, rfl⟩ := Int.eq_ofNat_of_zero_le (show 0 ≤ ar by omega)
        have hk : k < g.funcs.length := by omega
        have hfn := (RPX.out W2 (Below.refl _ _)).funcs
        simp only at hfn
        obtain ⟨ad, t, rfl, hab, htk, hc0, hc1, hrc⟩ := hfn.at_ hk
        have hat0 : atP g (k : Int) a2 = if a2 < 0 then none else t.f.code[a2.toNat]? := by
          unfold atP
          rw [show ((k : Int)).toNat = k by omega, htk]
          by_cases hn : a2 < 0
          · rw [if_pos (.inr hn), if_pos hn]
          · rw [if_neg (by omega), if_neg hn]; rfl
        have hcl := HGC.out _ (List.mem_of_getElem? htk)
        have HC1 : Hid (∀ X, Below W2.heap.size W2 X → X.cell? ⟨(ad.add (k * 2)).block, (ad.add (k * 2)).off + 1, none⟩ = some (.slice t.A t.f.code.length t.c)) := fun X hX => (hX.cell (p := ⟨(ad.add (k * 2)).block, (ad.add (k * 2)).off + 1, none⟩) (by show (ad.add (k * 2)).block < _; rw [block_of_add]; omega)).trans hc1
        have HHR := Lib.hid hrc
        have i1 : (k : Int) < (g.funcs.length : Int) := by omega
        have i2 : (0 : Int) ≤ (k : Int) := by omega
        clear hfn htk hc0 hc1 hrc
        by_cases hn : a2 < 0
        · have hat : atV (atP g (k : Int) a2) = .tuple #[.agg #[.int .i64 0, .int .i64 0], .bool false] := by rw [hat0, if_pos hn]; rfl
          clear hat0
          have AT1 := Lib.hid (ATX.out (k : Int) _ hfi hat)
          clear hat
          go_upto_region 6 with fail
          go_cut [10, 11] (fun s10 s11 wx => AtCut W2 0 0 false s10 s11 wx)
          case first =>
            go_region_held3 (fun w' => w'.cell? ⟨w1.heap.size, 0, none⟩ = some (.slice (some ad) g.funcs.length fc) ∧ w'.cell? ⟨w1.heap.size, 1, none⟩ = some (.int .i64 g.mutexes) ∧ w'.cell? ⟨w1.heap.size, 2, none⟩ = some (.slice cA g.conds.length cc) ∧ w'.cell? ⟨w1.heap.size, 3, none⟩ = some (.slice sA g.semas.length sc) ∧ w'.cell? ⟨w1.heap.size, 4, none⟩ = some (.slice hA g.chans.length hc) ∧ w'.cell? ⟨w1.heap.size, 5, none⟩ = some (.slice xA g.choices.length xc) ∧ w'.cell? ⟨w1.heap.size, 6, none⟩ = some (.int .i64 g.threads) ∧ w'.cell? ⟨w1.heap.size + 1, 0, none⟩ = some (.int .i64 a1) ∧ w'.cell? ⟨w1.heap.size + 1, 1, none⟩ = some (.int .i64 (k : Int)))
              (first | (exact KS.out _ (by repeat (first | assumption | exact Below.refl _ _ | refine Below.drew ?_ | refine Below.setCell ?_ (by first | exact zr | (simp; omega) | omega) _ | refine Below.alloc ?_ (by first | exact zr | exact hbq.size | (simp; omega) | omega) _))))
              ((go_simp; refine (AT1.out _ (by repeat (first | assumption | exact Below.refl _ _ | refine Below.drew ?_ | refine Below.setCell ?_ (by first | exact zr | (simp; omega) | omega) _ | refine Below.alloc ?_ (by first | exact zr | exact hbq.size | (simp; omega) | omega) _))).mono ?_; rintro e wq ⟨rfl, h4, hbq⟩
                obtain ⟨hcc, hff⟩ := bcell h4
                have hzz := h4.size
                simp at hzz))
            all_goals
              go_wp2_with fail
              go_meet
              refine ⟨_, rfl, rfl, ?_, ?_, ?_⟩
              · first | exact hbq.size | exact zr | omega
              · first | exact Blk.new _ _ _ | exact (Blk.new _ _ _).drew | exact ((Blk.new _ _ _).below h4 (by simp)) | (simpa using ((((Blk.new wr 80 #[.int .i64 0, .int .i64 0]).below h4 (by simp)).set_ 0 (.int .i64 (0))).set_ 1 (.int .i64 (0)))) | (simpa using (((((Blk.new wr 80 #[.int .i64 0, .int .i64 0]).drew).below h4 (by simp)).set_ 0 (.int .i64 (0))).set_ 1 (.int .i64 (0))))
              · exact (by repeat (first | assumption | exact Below.refl _ _ | refine Below.drew ?_ | refine Below.setCell ?_ (by first | exact zr | (simp; omega) | omega) _ | refine Below.alloc ?_ (by first | exact zr | exact hbq.size | (simp; omega) | omega) _))
          case rest =>
            obtain ⟨bx, rfl, rfl, hbx, hbk, hbc⟩ := hcut
            obtain ⟨p0, p1, p2, p3, p4, p5, p6, q0, q1⟩ := KS.out (wc.alloc (.cells #[.int .i64 0, .int .i64 0] 80)) (hbc.alloc hbc.size _)
            have zc1 : w1.heap.size + 1 < wc.heap.size := by have := hbc.size; omega
            have zc0 : w1.heap.size < wc.heap.size := by omega
            have x0 := (hbk.cell 0).trans rfl
            have x1 := (hbk.cell 1).trans rfl
            have zb := hbk.lt
            have zc := hbc.size
            have HBC := Lib.hid hbc
            have c1 := HC1.out (wc.alloc (.cells #[.int .i64 0, .int .i64 0] 80)) (hbc.alloc hbc.size _)
            clear hbk hbc
            go_wp2_with fail
            go_quiet (fail)
            go_wp2_with fail
            go_quiet (fail)
            go_wp2_with fail
            exact ⟨⟨2, by omega, rfl, by repeat (first | exact HBC.out.alloc zc _ | refine below_drews ?_ _)⟩, by simp [intOf]⟩
        · by_cases hge : (t.f.code.length : Int) ≤ a2
          · have hat : atV (atP g (k : Int) a2) = .tuple #[.agg #[.int .i64 0, .int .i64 0], .bool false] := by rw [hat0, if_neg hn, List.getElem?_eq_none (by omega)]; rfl
            clear hat0
            have AT1 := Lib.hid (ATX.out (k : Int) _ hfi hat)
            clear hat
            go_upto_region 6 with fail
            go_cut [10, 11] (fun s10 s11 wx => AtCut W2 0 0 false s10 s11 wx)
            case first =>
              go_region_held3 (fun w' => w'.cell? ⟨w1.heap.size, 0, none⟩ = some (.slice (some ad) g.funcs.length fc) ∧ w'.cell? ⟨w1.heap.size, 1, none⟩ = some (.int .i64 g.mutexes) ∧ w'.cell? ⟨w1.heap.size, 2, none⟩ = some (.slice cA g.conds.length cc) ∧ w'.cell? ⟨w1.heap.size, 3, none⟩ = some (.slice sA g.semas.length sc) ∧ w'.cell? ⟨w1.heap.size, 4, none⟩ = some (.slice hA g.chans.length hc) ∧ w'.cell? ⟨w1.heap.size, 5, none⟩ = some (.slice xA g.choices.length xc) ∧ w'.cell? ⟨w1.heap.size, 6, none⟩ = some (.int .i64 g.threads) ∧ w'.cell? ⟨w1.heap.size + 1, 0, none⟩ = some (.int .i64 a1) ∧ w'.cell? ⟨w1.heap.size + 1, 1, none⟩ = some (.int .i64 (k : Int)))
                (first | (exact KS.out _ (by repeat (first | assumption | exact Below.refl _ _ | refine Below.drew ?_ | refine Below.setCell ?_ (by first | exact zr | (simp; omega) | omega) _ | refine Below.alloc ?_ (by first | exact zr | exact hbq.size | (simp; omega) | omega) _))))
                ((go_simp; refine (AT1.out _ (by repeat (first | assumption | exact Below.refl _ _ | refine Below.drew ?_ | refine Below.setCell ?_ (by first | exact zr | (simp; omega) | omega) _ | refine Below.alloc ?_ (by first | exact zr | exact hbq.size | (simp; omega) | omega) _))).mono ?_; rintro e wq ⟨rfl, h4, hbq⟩
                  obtain ⟨hcc, hff⟩ := bcell h4
                  have hzz := h4.size
                  simp at hzz))
              all_goals
                go_wp2_with fail
                go_meet
                refine ⟨_, rfl, rfl, ?_, ?_, ?_⟩
                · first | exact hbq.size | exact zr | omega
                · first | exact Blk.new _ _ _ | exact (Blk.new _ _ _).drew | exact ((Blk.new _ _ _).below h4 (by simp)) | (simpa using ((((Blk.new wr 80 #[.int .i64 0, .int .i64 0]).below h4 (by simp)).set_ 0 (.int .i64 (0))).set_ 1 (.int .i64 (0)))) | (simpa using (((((Blk.new wr 80 #[.int .i64 0, .int .i64 0]).drew).below h4 (by simp)).set_ 0 (.int .i64 (0))).set_ 1 (.int .i64 (0))))
                · exact (by repeat (first | assumption | exact Below.refl _ _ | refine Below.drew ?_ | refine Below.setCell ?_ (by first | exact zr | (simp; omega) | omega) _ | refine Below.alloc ?_ (by first | exact zr | exact hbq.size | (simp; omega) | omega) _))
            case rest =>
              obtain ⟨bx, rfl, rfl, hbx, hbk, hbc⟩ := hcut
              obtain ⟨p0, p1, p2, p3, p4, p5, p6, q0, q1⟩ := KS.out (wc.alloc (.cells #[.int .i64 0, .int .i64 0] 80)) (hbc.alloc hbc.size _)
              have zc1 : w1.heap.size + 1 < wc.heap.size := by have := hbc.size; omega
              have zc0 : w1.heap.size < wc.heap.size := by omega
              have x0 := (hbk.cell 0).trans rfl
              have x1 := (hbk.cell 1).trans rfl
              have zb := hbk.lt
              have zc := hbc.size
              have HBC := Lib.hid hbc
              have c1 := HC1.out (wc.alloc (.cells #[.int .i64 0, .int .i64 0] 80)) (hbc.alloc hbc.size _)
              clear hbk hbc
              go_wp2_with fail
              go_quiet (fail)
              go_wp2_with fail
              go_quiet (fail)
              go_wp2_with fail
              exact ⟨⟨2, by omega, rfl, by repeat (first | exact HBC.out.alloc zc _ | refine below_drews ?_ _)⟩, by simp [intOf]⟩
          · obtain ⟨j, rfl⟩ := Int.eq_ofNat_of_zero_le (show 0 ≤ a2 by omega)
            have hj : j < t.f.code.length := by omega
            have i3 : (j : Int) < (t.f.code.length : Int) := by omega
            have i4 : (0 : Int) ≤ (j : Int) := by omega
            obtain ⟨ad2, i, htA, hab2, hij, he0, he1⟩ := HHR.out.at_ hj
            have hat : atV (atP g (k : Int) (j : Int)) = .tuple #[.agg #[.int .i64 i.op, .int .i64 i.a], .bool true] := by rw [hat0, if_neg hn, show ((j : Int)).toNat = j by omega, hij]; rfl
            rw [htA] at HC1
            clear hat0 hij htA hn hge
            have AT1 := Lib.hid (ATX.out (k : Int) _ hfi hat)
            clear hat
            go_upto_region 6 with fail
            go_cut [10, 11] (fun s10 s11 wx => AtCut W2 i.op i.a true s10 s11 wx)
            case first =>
              go_region_held3 (fun w' => w'.cell? ⟨w1.heap.size, 0, none⟩ = some (.slice (some ad) g.funcs.length fc) ∧ w'.cell? ⟨w1.heap.size, 1, none⟩ = some (.int .i64 g.mutexes) ∧ w'.cell? ⟨w1.heap.size, 2, none⟩ = some (.slice cA g.conds.length cc) ∧ w'.cell? ⟨w1.heap.size, 3, none⟩ = some (.slice sA g.semas.length sc) ∧ w'.cell? ⟨w1.heap.size, 4, none⟩ = some (.slice hA g.chans.length hc) ∧ w'.cell? ⟨w1.heap.size, 5, none⟩ = some (.slice xA g.choices.length xc) ∧ w'.cell? ⟨w1.heap.size, 6, none⟩ = some (.int .i64 g.threads) ∧ w'.cell? ⟨w1.heap.size + 1, 0, none⟩ = some (.int .i64 a1) ∧ w'.cell? ⟨w1.heap.size + 1, 1, none⟩ = some (.int .i64 (k : Int)))
                (first | (exact KS.out _ (by repeat (first | assumption | exact Below.refl _ _ | refine Below.drew ?_ | refine Below.setCell ?_ (by first | exact zr | (simp; omega) | omega) _ | refine Below.alloc ?_ (by first | exact zr | exact hbq.size | (simp; omega) | omega) _))))
                ((go_simp; refine (AT1.out _ (by repeat (first | assumption | exact Below.refl _ _ | refine Below.drew ?_ | refine Below.setCell ?_ (by first | exact zr | (simp; omega) | omega) _ | refine Below.alloc ?_ (by first | exact zr | exact hbq.size | (simp; omega) | omega) _))).mono ?_; rintro e wq ⟨rfl, h4, hbq⟩
                  obtain ⟨hcc, hff⟩ := bcell h4
                  have hzz := h4.size
                  simp at hzz))
              all_goals
                go_wp2_with fail
                go_meet
                refine ⟨_, rfl, rfl, ?_, ?_, ?_⟩
                · first | exact hbq.size | exact zr | omega
                · first | exact Blk.new _ _ _ | exact (Blk.new _ _ _).drew | exact ((Blk.new _ _ _).below h4 (by simp)) | (simpa using ((((Blk.new wr 80 #[.int .i64 0, .int .i64 0]).below h4 (by simp)).set_ 0 (.int .i64 (i.op))).set_ 1 (.int .i64 (i.a)))) | (simpa using (((((Blk.new wr 80 #[.int .i64 0, .int .i64 0]).drew).below h4 (by simp)).set_ 0 (.int .i64 (i.op))).set_ 1 (.int .i64 (i.a))))
                · exact (by repeat (first | assumption | exact Below.refl _ _ | refine Below.drew ?_ | refine Below.setCell ?_ (by first | exact zr | (simp; omega) | omega) _ | refine Below.alloc ?_ (by first | exact zr | exact hbq.size | (simp; omega) | omega) _))
            case rest =>
              obtain ⟨bx, rfl, rfl, hbx, hbk, hbc⟩ := hcut
              obtain ⟨p0, p1, p2, p3, p4, p5, p6, q0, q1⟩ := KS.out (wc.alloc (.cells #[.int .i64 0, .int .i64 0] 80)) (hbc.alloc hbc.size _)
              have zc1 : w1.heap.size + 1 < wc.heap.size := by have := hbc.size; omega
              have zc0 : w1.heap.size < wc.heap.size := by omega
              have x0 := (hbk.cell 0).trans rfl
              have x1 := (hbk.cell 1).trans rfl
              have zb := hbk.lt
              have zc := hbc.size
              have HBC := Lib.hid hbc
              have c1 := HC1.out (wc.alloc (.cells #[.int .i64 0, .int .i64 0] 80)) (hbc.alloc hbc.size _)
              have d0 := ((hbc.alloc hbc.size (.cells #[.int .i64 0, .int .i64 0] 80)).cell (p := ad2.add (j * 2)) (by rw [block_of_add]; omega)).trans he0
              have d1 := ((hbc.alloc hbc.size (.cells #[.int .i64 0, .int .i64 0] 80)).cell (p := ⟨(ad2.add (j * 2)).block, (ad2.add (j * 2)).off + 1, none⟩) (by show (ad2.add (j * 2)).block < _; rw [block_of_add]; omega)).trans he1
              clear hbk hbc
              go_wp2_with fail
              go_quiet (fail)
              go_wp2_with fail
              go_quiet (fail)
              go_wp2_with fail
              exact ⟨⟨2, by omega, rfl, by repeat (first | exact HBC.out.alloc zc _ | refine below_drews ?_ _ | refine Below.setCell ?_ (by first | exact zc | (simp; omega) | omega) _)⟩, by simp [intOf]⟩
    · go_wp2_with fail
      refine (clives_any _).mono ?_
      rintro e w5 ⟨rfl, hb5⟩
      go_wp2_with fail
      go_ret
      exact ⟨rfl, BW.out _ (HBR.out.trans (hb5.mono zr))⟩
end Go.Proofs.Ytlfaocgldpdihaa.codeAt
