/-
  The document's ring: New.
-/
import Derived.Test.YthlaaeopohilmaaRgOwn
import Derived.Deep.AppendLies
import Derived.Deep.RegionLaw
import Derived.WalkLawsBesides
set_option linter.unusedVariables false
set_option linter.unusedSimpArgs false
namespace Go.Proofs.Ythlaaeopohilmaa
open Go.RowKit Plain

/-- The document's ring: its room, its things. -/
def refNewPost (room : Nat) (l : List Int) (w : World) (e : Ending) (w' : World) : Prop :=
  ∃ A c, e = .returned (.agg #[.int .i64 (room : Int), .slice A l.length c]) ∧ OwnI w' w.heap.size (.slice A l.length c) l ∧ Below w.heap.size w w'

set_option maxHeartbeats 4000000 in
theorem refNew_mid (room : Nat) (hn : room ≤ 1024) (l : List Int) (m : Nat) (hm : l.length = m) (w : World) (BB : Nat) (A : Option Addr) (c : Nat) (hr : Reads w BB 1 A m (l.map EnI)) (hBB : BB ≤ w.heap.size) (hm2 : m ≤ 1000) :
    Calls Try.prog 9 #[.int .i64 (room : Int), .slice A m c] w (refNewPost room (l.take room) w) := by
  obtain ⟨i0, hi0, hz0, hz1, hz2⟩ := info_parts info_int
  have h1 : (0 : Int) ≤ (room : Int) := by omega
  have h2 : (room : Int) ≤ 1024 := by omega
  have HR := Lib.hid hr; have HM := Lib.hid hm
  clear hr hm
  go_enter Try.func9, Try.ntmps9
  go_wp2_with fail
  have hb0 : Blk ((w.alloc (.cells #[.int .i64 0, .slice none 0 0] 27)).alloc (.cells #[.int .i64 ((room : Int)), .slice none 0 0] 27)) w.heap.size 27 #[.int .i64 0, .slice none 0 0] ∧ Blk ((w.alloc (.cells #[.int .i64 0, .slice none 0 0] 27)).alloc (.cells #[.int .i64 ((room : Int)), .slice none 0 0] 27)) (w.heap.size + 1) 27 #[.int .i64 ((room : Int)), .slice none 0 0] ∧ Below w.heap.size w ((w.alloc (.cells #[.int .i64 0, .slice none 0 0] 27)).alloc (.cells #[.int .i64 ((room : Int)), .slice none 0 0] 27)) :=
    ⟨(Blk.new w _ _).alloc _, by have h9 := Blk.new (w.alloc (.cells #[.int .i64 0, .slice none 0 0] 27)) 27 #[.int .i64 ((room : Int)), .slice none 0 0]; simpa using h9, ((Below.refl _ _).alloc (Nat.le_refl _) _).alloc (by simp) _⟩
  have HB0 := Lib.hid hb0
  clear hb0
  go_loopw [6] (fun s6 wr => ∃ (k : Nat) (Ao : Option Addr) (co : Nat), k ≤ m ∧ k ≤ room ∧ s6 = .int .i64 (k : Int) ∧ Blk wr w.heap.size 27 #[.int .i64 0, .slice none 0 0] ∧ Blk wr (w.heap.size + 1) 27 #[.int .i64 ((room : Int)), .slice Ao k co] ∧ wr.ownsRow (w.heap.size + 1 + 1) 3 1 (.slice Ao k co) k ((l.take k).map EnI) ∧ Below w.heap.size w wr) (fun s6 _ => m - (intOf s6).toNat)
  case atStart => exact ⟨0, none, 0, by omega, by omega, rfl, HB0.out.1, HB0.out.2.1, World.ownsRow_nil _ _ _ _, HB0.out.2.2⟩
  case round =>
    clear HB0
    obtain ⟨k, Ao, co, hk1, hk2, rfl, hb4, hb5, hown, hbel⟩ := hrel
    have x0 : wr.cell? ⟨w.heap.size + 1, 0, none⟩ = some (.int .i64 ((room : Int))) := (hb5.cell 0).trans rfl
    have x1 : wr.cell? ⟨w.heap.size + 1, 1, none⟩ = some (.slice Ao k co) := (hb5.cell 1).trans rfl
    have y0 : wr.cell? ⟨w.heap.size, 0, none⟩ = some (.int .i64 0) := (hb4.cell 0).trans rfl
    have y1 : wr.cell? ⟨w.heap.size, 1, none⟩ = some (.slice none 0 0) := (hb4.cell 1).trans rfl
    have yz0 : wr.frozen? ⟨w.heap.size, 0, none⟩ = false := hb4.frozen 0
    have yz1 : wr.frozen? ⟨w.heap.size, 1, none⟩ = false := hb4.frozen 1
    have hzz := hbel.size
    have hz5 := hb5.lt
    have H4 := Lib.hid hb4; have H5 := Lib.hid hb5; have HOW := Lib.hid hown; have HBEL := Lib.hid hbel
    clear hb4 hb5 hown hbel
    by_cases hlt : k < m ∧ k < room
    · obtain ⟨hlt1, hlt2⟩ := hlt
      obtain ⟨ad, x, rfl, hab, hx, hcx0⟩ := HR.out.num hlt1
      have hcx := (HBEL.out.cell (p := ad.add k) (by rw [block_of_add]; omega)).trans hcx0
      have hk0 : (0 : Int) ≤ (k : Int) := by omega
      have hk3 : (k : Int) < (m : Int) := by omega
      have hk4 : (k : Int) < (room : Int) := by omega
      have HX := Lib.hid hx
      have hcb := World.block_lt_of_cell? _ _ hcx
      clear hx hcx0 y0 y1 yz0 yz1
      go_wp2_with fail
      go_region_law (first
        | (refine step_append_lies _ (by rfl) (.tmp 24) (.tmp 29) _ (by rfl) (w.heap.size + 1 + 1) 3 i0 _ 1 8 Try.underlying22 hi0 hz0 hz1 hz2 rfl (by decide) (.slice Ao k co) k ((l.take k).map EnI) (by rfl) ((HOW.out.alloc _).drew) ⟨wr.heap.size, 0, none⟩ 1 1 [.int .i64 x] (by rfl) rfl
            (by intro j u hj; match j, hj with | 0, hj => (simp at hj; subst hj; simp [Addr.add])) (by intro u hu; simp at hu; subst hu; rfl) (by omega) (by unfold maxLen; omega) (by omega) (by simp; omega) _ rfl ?_
           intro g' cap' w' hown' hg' hor' hlt'
           have hF : Fr (fun i => (Value.slice Ao k co).ownBlock = some i) wr w' := ((Fr.refl _ wr).drew.alloc _).trans (Fr.of_grown hg') (fun i _ h => h)
           have h5' := hF.blk H5.out (own_blk_ne HOW.out H5.out (by decide))
           have z3 := (h5'.cell 1).trans rfl
           have zf := h5'.frozen 1
           have hlo := h5'.lt)
        | fail)
      all_goals
        have hri := fun i (hi : (Value.slice Ao k co).ownBlock = some i) => (HOW.out.lt i hi).1
        have hge : w.heap.size + 1 + 1 ≤ g' := (hown'.lt g' rfl).1
        have h4' := (hF.blk H4.out (own_blk_ne HOW.out H4.out (by decide))).far (p := ⟨w.heap.size + 1, 1, none⟩) (by show w.heap.size ≠ w.heap.size + 1; omega) (.slice (some ⟨g', 0, none⟩) (k + 1) cap')
        have h5s := h5'.set_ 1 (.slice (some ⟨g', 0, none⟩) (k + 1) cap')
        have hfs := (Fr.refl (fun i => i = w.heap.size + 1) w').setCell (p := ⟨w.heap.size + 1, 1, none⟩) (.inl rfl) (.slice (some ⟨g', 0, none⟩) (k + 1) cap')
        have hows := hfs.own hown' (fun i hi => by have := (hown'.lt i hi).1; omega)
        have hbs := (HBEL.out.trans (hF.below hzz (fun i hi => by have := hri i hi; omega))).setCell (p := ⟨w.heap.size + 1, 1, none⟩) (by show w.heap.size ≤ w.heap.size + 1; omega) (.slice (some ⟨g', 0, none⟩) (k + 1) cap')
        have e1 : (l.take k).map EnI ++ [.int .i64 x] = (l.take (k + 1)).map EnI := by rw [List.take_add_one, HX.out]; simp
        rw [e1] at hows
        have K4 := Lib.hid h4'; have K5 := Lib.hid h5s; have KO := Lib.hid hows; have KB := Lib.hid hbs
        clear hri hge h4' h5s hfs hows hbs e1 hF h5' hown' hg' hor'
        go_wp2_with fail
        exact ⟨⟨k + 1, _, _, by omega, by omega, by go_num, K4.out, by simpa using K5.out, KO.out, KB.out⟩, by simp [intOf]; omega⟩
    · have hln : (l.take room).length = k := by rw [List.length_take, HM.out]; omega
      have hlk : l.take k = l.take room := by
        rcases (show k = room ∨ (k = m ∧ m ≤ room) by omega) with h | ⟨h, h'⟩
        · rw [h]
        · rw [List.take_of_length_le (by rw [HM.out]; omega), List.take_of_length_le (by rw [HM.out]; omega)]
      have hfo := ((Fr.refl (fun i => i = w.heap.size) wr).setCell (p := ⟨w.heap.size, 0, none⟩) (.inl rfl) (.int .i64 ((room : Int)))).setCell (p := ⟨w.heap.size, 1, none⟩) (.inl rfl) (.slice Ao k co)
      have hb6 := (H4.out.set_ 0 (.int .i64 ((room : Int)))).set_ 1 (.slice Ao k co)
      have how := hfo.own HOW.out (fun i hi => by have := (HOW.out.lt i hi).1; omega)
      rw [hlk] at how
      have hbz := HBEL.out.trans (hfo.below hzz (fun i hi => by omega))
      have HLN := Lib.hid hln
      have K6 := Lib.hid hb6; have KO := Lib.hid how; have KB := Lib.hid hbz
      clear hln hlk hfo hb6 how hbz
      by_cases hge : k < m
      all_goals
        go_wp2_with fail
        refine bodyPost_ret (v := .agg #[.int .i64 ((room : Int)), .slice Ao k co]) (results_cell_row rfl _ _ w.heap.size 27 _ (0, 0) _ rfl K6.out Try.underlying27 rfl (by kernel_rfl)) rfl ?_
        refine ⟨Ao, co, by rw [HLN.out], ?_, KB.out⟩
        unfold OwnI
        rw [HLN.out]
        exact ⟨KO.out.1, KO.out.2.imp id (fun ⟨g, cap, cur, q1, q2, q3⟩ => ⟨g, cap, cur, q1, by omega, q3⟩)⟩

set_option maxHeartbeats 4000000 in
theorem refNew_lo (n : Int) (hn : n < 0) (l : List Int) (m : Nat) (hm : l.length = m) (w : World) (BB : Nat) (A : Option Addr) (c : Nat) (hr : Reads w BB 1 A m (l.map EnI)) (hBB : BB ≤ w.heap.size) (hm2 : m ≤ 1000) :
    Calls Try.prog 9 #[.int .i64 n, .slice A m c] w (refNewPost 0 (l.take 0) w) := by
  obtain ⟨i0, hi0, hz0, hz1, hz2⟩ := info_parts info_int
  have HR := Lib.hid hr; have HM := Lib.hid hm
  clear hr hm
  go_enter Try.func9, Try.ntmps9
  go_wp2_with fail
  have hb0 : Blk ((w.alloc (.cells #[.int .i64 0, .slice none 0 0] 27)).alloc (.cells #[.int .i64 (0), .slice none 0 0] 27)) w.heap.size 27 #[.int .i64 0, .slice none 0 0] ∧ Blk ((w.alloc (.cells #[.int .i64 0, .slice none 0 0] 27)).alloc (.cells #[.int .i64 (0), .slice none 0 0] 27)) (w.heap.size + 1) 27 #[.int .i64 (0), .slice none 0 0] ∧ Below w.heap.size w ((w.alloc (.cells #[.int .i64 0, .slice none 0 0] 27)).alloc (.cells #[.int .i64 (0), .slice none 0 0] 27)) :=
    ⟨(Blk.new w _ _).alloc _, by have h9 := Blk.new (w.alloc (.cells #[.int .i64 0, .slice none 0 0] 27)) 27 #[.int .i64 (0), .slice none 0 0]; simpa using h9, ((Below.refl _ _).alloc (Nat.le_refl _) _).alloc (by simp) _⟩
  have HB0 := Lib.hid hb0
  clear hb0
  go_loopw [6] (fun s6 wr => ∃ (k : Nat) (Ao : Option Addr) (co : Nat), k ≤ m ∧ k ≤ 0 ∧ s6 = .int .i64 (k : Int) ∧ Blk wr w.heap.size 27 #[.int .i64 0, .slice none 0 0] ∧ Blk wr (w.heap.size + 1) 27 #[.int .i64 (0), .slice Ao k co] ∧ wr.ownsRow (w.heap.size + 1 + 1) 3 1 (.slice Ao k co) k ((l.take k).map EnI) ∧ Below w.heap.size w wr) (fun s6 _ => m - (intOf s6).toNat)
  case atStart => exact ⟨0, none, 0, by omega, by omega, rfl, HB0.out.1, HB0.out.2.1, World.ownsRow_nil _ _ _ _, HB0.out.2.2⟩
  case round =>
    clear HB0
    obtain ⟨k, Ao, co, hk1, hk2, rfl, hb4, hb5, hown, hbel⟩ := hrel
    have x0 : wr.cell? ⟨w.heap.size + 1, 0, none⟩ = some (.int .i64 (0)) := (hb5.cell 0).trans rfl
    have x1 : wr.cell? ⟨w.heap.size + 1, 1, none⟩ = some (.slice Ao k co) := (hb5.cell 1).trans rfl
    have y0 : wr.cell? ⟨w.heap.size, 0, none⟩ = some (.int .i64 0) := (hb4.cell 0).trans rfl
    have y1 : wr.cell? ⟨w.heap.size, 1, none⟩ = some (.slice none 0 0) := (hb4.cell 1).trans rfl
    have yz0 : wr.frozen? ⟨w.heap.size, 0, none⟩ = false := hb4.frozen 0
    have yz1 : wr.frozen? ⟨w.heap.size, 1, none⟩ = false := hb4.frozen 1
    have hzz := hbel.size
    have hz5 := hb5.lt
    have H4 := Lib.hid hb4; have H5 := Lib.hid hb5; have HOW := Lib.hid hown; have HBEL := Lib.hid hbel
    clear hb4 hb5 hown hbel
    by_cases hlt : k < m ∧ k < 0
    · obtain ⟨hlt1, hlt2⟩ := hlt
      exact absurd hlt2 (by omega)
    · have hln : (l.take 0).length = k := by rw [List.length_take, HM.out]; omega
      have hlk : l.take k = l.take 0 := by
        rcases (show k = 0 ∨ (k = m ∧ m ≤ 0) by omega) with h | ⟨h, h'⟩
        · rw [h]
        · rw [List.take_of_length_le (by rw [HM.out]; omega), List.take_of_length_le (by rw [HM.out]; omega)]
      have hfo := ((Fr.refl (fun i => i = w.heap.size) wr).setCell (p := ⟨w.heap.size, 0, none⟩) (.inl rfl) (.int .i64 (0))).setCell (p := ⟨w.heap.size, 1, none⟩) (.inl rfl) (.slice Ao k co)
      have hb6 := (H4.out.set_ 0 (.int .i64 (0))).set_ 1 (.slice Ao k co)
      have how := hfo.own HOW.out (fun i hi => by have := (HOW.out.lt i hi).1; omega)
      rw [hlk] at how
      have hbz := HBEL.out.trans (hfo.below hzz (fun i hi => by omega))
      have HLN := Lib.hid hln
      have K6 := Lib.hid hb6; have KO := Lib.hid how; have KB := Lib.hid hbz
      clear hln hlk hfo hb6 how hbz
      by_cases hge : k < m
      all_goals
        go_wp2_with fail
        refine bodyPost_ret (v := .agg #[.int .i64 (0), .slice Ao k co]) (results_cell_row rfl _ _ w.heap.size 27 _ (0, 0) _ rfl K6.out Try.underlying27 rfl (by kernel_rfl)) rfl ?_
        refine ⟨Ao, co, by rw [HLN.out]; rfl, ?_, KB.out⟩
        unfold OwnI
        rw [HLN.out]
        exact ⟨KO.out.1, KO.out.2.imp id (fun ⟨g, cap, cur, q1, q2, q3⟩ => ⟨g, cap, cur, q1, by omega, q3⟩)⟩

theorem refNew_any (n : Int) (hn : n ≤ 1024) (l : List Int) (m : Nat) (hm : l.length = m) (w : World) (BB : Nat) (A : Option Addr) (c : Nat) (hr : Reads w BB 1 A m (l.map EnI)) (hBB : BB ≤ w.heap.size) (hm2 : m ≤ 1000) :
    Calls Try.prog 9 #[.int .i64 n, .slice A m c] w (refNewPost (clampR n) (l.take (clampR n)) w) := by
  by_cases h1 : n < 0
  · rw [show clampR n = 0 by unfold clampR; omega]
    exact refNew_lo n h1 l m hm w BB A c hr hBB hm2
  · obtain ⟨k, rfl⟩ : ∃ k : Nat, n = (k : Int) := ⟨n.toNat, by omega⟩
    rw [show clampR (k : Int) = k by unfold clampR; omega]
    exact refNew_mid k (by omega) l m hm w BB A c hr hBB hm2
end Go.Proofs.Ythlaaeopohilmaa
