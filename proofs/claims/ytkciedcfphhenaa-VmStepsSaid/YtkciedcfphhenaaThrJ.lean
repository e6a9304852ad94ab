
/-
  numbers, Frame: of the document.
-/
import Derived.Test.YtkciedcfphhenaaThrI
set_option linter.unusedVariables false
set_option linter.unusedSimpArgs false
namespace Go.Proofs.Ytkciedcfphhenaa
open Go.RowKit Plain

def numL (l : List Int) (m : Nat) : List Int := (l.map keep).take m
theorem numL_snoc (l : List Int) (k : Nat) (z : Int) (h : l[k]? = some z) : (l.map keep).take k ++ [keep z] = (l.map keep).take (k + 1) := by
  rw [List.take_add_one, List.getElem?_map, h]; rfl

def NmRel (base : Nat) (l : List Int) (m : Nat) (w : World) (v s : Value) (wr : World) : Prop :=
  ∃ k : Nat, k ≤ l.length ∧ k ≤ m ∧ s = .int .i64 (k : Int) ∧ wr.ownsRow base 3 1 v k (IS ((l.map keep).take k)) ∧ Below base w wr

set_option maxHeartbeats 2000000 in
set_option maxRecDepth 100000 in
theorem numbers_any (l : List Int) (m : Nat) (hm : m ≤ 1000) (w : World) (B : Nat) (A : Option Addr) (n c : Nat) (hr : RI w B A n c l) (hB : B ≤ w.heap.size) :
    Calls Try.prog 28 #[.slice A n c, .int .i64 (m : Int)] w fun e w' =>
      ∃ A' c', e = .returned (.slice A' (numL l m).length c') ∧ w'.ownsRow w.heap.size 3 1 (.slice A' (numL l m).length c') (numL l m).length (IS (numL l m)) ∧ Below w.heap.size w w' := by
  obtain ⟨i0, hi0, hz0, hz1, hz2⟩ := info_parts info_int
  obtain ⟨rfl, hnc, hrd⟩ := hr
  have HR := Lib.hid hrd
  clear hrd
  go_enter Try.func28, Try.ntmps28
  go_wp2_with fail
  go_loopw [5, 6] (fun v s wr => NmRel w.heap.size l m w v s wr) (fun _ s _ => l.length - (intOf s).toNat)
  case atStart => exact ⟨0, by omega, by omega, rfl, by simpa [IS] using World.ownsRow_nil w w.heap.size 3 1, Below.refl _ _⟩
  case round =>
    obtain ⟨k, hk, hk4, rfl, hown, hbel⟩ := hrel
    by_cases hc : k < l.length ∧ k < m
    · obtain ⟨hlt, h4⟩ := hc
      obtain ⟨ad, z, rfl, hab, hz, hcell⟩ := RI.at_ ⟨rfl, hnc, HR.out⟩ hlt
      have hcell' : wr.cell? (ad.add k) = some (.int .i64 z) := (hbel.cell (p := ad.add k) (by rw [block_of_add]; omega)).trans hcell
      have hsn := Lib.hid (numL_snoc l k z hz)
      have hsz := hbel.size
      have h4' : (k : Int) < (m : Int) := by omega
      clear hz hcell
      obtain ⟨vA, vc, rfl, _, _⟩ := own_slice hown
      have HO := Lib.hid hown
      have HB := Lib.hid hbel
      clear hown hbel
      go_wp2_with fail
      refine (refKeep_any z _).mono ?_
      rintro e w1 ⟨rfl, rfl⟩
      go_wp2_with (at_builtin; go_must (refine wpList_append_any _ rfl (.tmp 18) (.tmp 24) _ rfl w.heap.size 3 i0 _ 1 8 Try.underlying23 hi0 hz0 hz1 hz2 rfl (by decide) (.slice vA k vc) _ _ rfl (HO.out.alloc _) (w1.heap.size + 1) (some ⟨w1.heap.size, 0, none⟩) 1 1 [.int .i64 (keep z)] rfl ?c0 ?c3 ?c1 ?c2 (by simp; omega) ?k))
      case c0 => exact ⟨rfl, fun _ => ⟨_, rfl, by simp, fun j u hj => by
        match j, hj with
        | 0, hj => simp at hj; subst hj; simp [Addr.add]⟩⟩
      case c3 => intro u hu; simp at hu; subst hu; rfl
      case c1 => unfold maxLen; omega
      case c2 => omega
      case k =>
      intro v' w2 hown2 hg2 hat2
      have hst : IS ((l.map keep).take k) ++ [.int .i64 (keep z)] = IS ((l.map keep).take (k + 1)) := by rw [← hsn.out]; simp [IS]
      rw [hst] at hown2
      have HO2 := Lib.hid hown2
      have hb2 := (HB.out.alloc hsz (.cells #[.int .i64 (keep z)] 3)).grown hg2 (by simp; omega) (fun i hi => (HO.out.lt i hi).1)
      have HB2 := Lib.hid hb2
      clear hown2 hg2 hat2 hst hb2
      go_wp2_with fail
      exact ⟨⟨k + 1, by omega, by omega, by go_num, HO2.out, HB2.out⟩, by simp [intOf]; omega⟩
    · have hfin : (l.map keep).take k = numL l m := by
        unfold numL
        rcases Nat.lt_or_ge k l.length with h | h
        · rw [show k = m by omega]
        · rw [List.take_of_length_le (by simp; omega), List.take_of_length_le (by simp; omega)]
      have hkl : k = (numL l m).length := by rw [← hfin]; simp; omega
      have hown' : wr.ownsRow w.heap.size 3 1 u5 (numL l m).length (IS (numL l m)) := by rw [← hfin, List.length_take, List.length_map, show min k l.length = k by omega]; exact hown
      obtain ⟨vA, vc, hv, _, _⟩ := own_slice hown'
      subst hv
      have HO := Lib.hid hown'; have HB := Lib.hid hbel
      clear hown hbel hown' hfin hkl
      by_cases h1 : k < l.length
      all_goals
        try have h2 : ¬ (k : Int) < (m : Int) := by omega
        go_wp2_with fail
        go_ret
        exact ⟨_, _, rfl, HO.out, HB.out⟩

set_option maxHeartbeats 4000000 in
set_option maxRecDepth 100000 in
theorem refFrame_any (h : PH) (p : PV) (w : World) (B : Nat) (hr : RP w B h p) (hB : B ≤ w.heap.size) (hl : FewLoc p) (f : Nat) (hf : f < p.funcs.length) (hlen : p.funcs.length ≤ 9223372036854775807) :
    Calls Try.prog 29 #[.agg #[.slice h.fA p.funcs.length h.fc, .int .i64 p.mutexes, .slice h.cA p.conds.length h.cc, .slice h.sA p.semas.length h.sc, .slice h.hA p.chans.length h.hc, .slice h.xA p.choices.length h.xc, .int .i64 p.threads], .int .i64 (f : Int)] w
      fun e w' => ∃ A c, e = .returned (.agg #[.int .i64 (f : Int), .int .i64 0, .slice A (funcAt p f).locals.toNat c]) ∧ w'.ownsRow w.heap.size 3 1 (.slice A (funcAt p f).locals.toNat c) (funcAt p f).locals.toNat (IS (newFr p f).locals) ∧ Below w.heap.size w w' := by
  obtain ⟨i0, hi0, hz0, hz1, hz2⟩ := info_parts info_int
  obtain ⟨fA, fc, cA, cc, sA, sc, hA, hc, xA, xc⟩ := h
  have hrf : RF w B fA p.funcs.length fc p.funcs := hr.funcs
  obtain ⟨ad, t, rfl, hab, hi, c0, c1, hrc⟩ := hrf.at_ hf
  have hfa : funcAt p f = t.f := by unfold funcAt; rw [show ((f : Int)).toNat = f by omega, List.getD_eq_getElem?_getD, hi]; rfl
  obtain ⟨m, hm⟩ : ∃ m : Nat, t.f.locals = (m : Int) := Int.eq_ofNat_of_zero_le (hl _ (List.mem_of_getElem? hi)).1
  have hm8 : m ≤ 8 := by have := (hl _ (List.mem_of_getElem? hi)).2; omega
  have hloc : (funcAt p f).locals.toNat = m := by rw [hfa, hm]; omega
  have hnew : (newFr p f).locals = List.replicate m 0 := by unfold newFr; rw [hloc]
  rw [hloc, hnew]
  rw [hm] at c0
  have hk : (f : Int) < (p.funcs.length : Int) := by omega
  have d0 : (((w.alloc (.cells #[.slice (some ad) p.funcs.length fc, .int .i64 p.mutexes, .slice cA p.conds.length cc, .slice sA p.semas.length sc, .slice hA p.chans.length hc, .slice xA p.choices.length xc, .int .i64 p.threads] 26)).alloc (.cells #[.int .i64 0, .int .i64 0, .slice none 0 0] 67))).cell? (ad.add (f * 2)) = some (.int .i64 (m : Int)) :=
    ((((Below.refl w.heap.size w).alloc (Nat.le_refl _) _).alloc (by simp) _).cell (by rw [block_of_add]; omega)).trans c0
  have hmk := make_ints m (by omega)
  clear hr hrf hi c0 c1 hrc hfa hm hloc hnew hl
  go_enter Try.func29, Try.ntmps29
  go_wp2_with fail
  obtain ⟨W2, hW2⟩ : ∃ W, W = (w.alloc (.cells #[.slice (some ad) p.funcs.length fc, .int .i64 p.mutexes, .slice cA p.conds.length cc, .slice sA p.semas.length sc, .slice hA p.chans.length hc, .slice xA p.choices.length xc, .int .i64 p.threads] 26)).alloc (.cells #[.int .i64 (f : Int), .int .i64 0, .slice (some ⟨w.heap.size + 1 + 1, 0, none⟩) m m] 67) := ⟨_, rfl⟩
  have hz : W2.heap.size = w.heap.size + 1 + 1 := by rw [hW2]; simp
  have hblk : Blk W2 (w.heap.size + 1) 67 #[.int .i64 (f : Int), .int .i64 0, .slice (some ⟨w.heap.size + 1 + 1, 0, none⟩) m m] := by rw [hW2]; simpa using Blk.new (w.alloc (.cells #[.slice (some ad) p.funcs.length fc, .int .i64 p.mutexes, .slice cA p.conds.length cc, .slice sA p.semas.length sc, .slice hA p.chans.length hc, .slice xA p.choices.length xc, .int .i64 p.threads] 26)) 67 #[.int .i64 (f : Int), .int .i64 0, .slice (some ⟨w.heap.size + 1 + 1, 0, none⟩) m m]
  have hbel : Below w.heap.size w W2 := by rw [hW2]; exact ((Below.refl w.heap.size w).alloc (Nat.le_refl _) _).alloc (by simp) _
  have hown := own_made W2 m (by omega)
  rw [← hW2]
  rw [hz] at hown
  refine bodyPost_ret (v := .agg #[.int .i64 (f : Int), .int .i64 0, .slice (some ⟨w.heap.size + 1 + 1, 0, none⟩) m m]) (results_cell_row rfl _ _ (w.heap.size + 1) 67 _ (0, 0) _ rfl (hblk.alloc _) Try.underlying67 rfl (by kernel_rfl)) rfl ?_
  exact ⟨_, _, rfl, own_mono hown (by omega), hbel.alloc (by omega) _⟩
end Go.Proofs.Ytkciedcfphhenaa
