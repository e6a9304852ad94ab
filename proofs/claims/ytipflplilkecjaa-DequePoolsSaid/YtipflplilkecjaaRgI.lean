
/-
  What a ring of ints does: slot, Len, Room, At, Peek, Push, Pop, fill, New.
-/
import Derived.Test.YtipflplilkecjaaRgM
import Derived.Test.YtipflplilkecjaaChecked
import Derived.WalkKit
import Derived.WalkSpells
import Derived.Outline
import Derived.IntWalk
import Derived.Deep.QuietTactic
import Derived.BigQuiet
import Derived.Deep.RegionHeld3
import Derived.Deep.DeepCutAuto
import Derived.Deep.CutBlock
set_option linter.unusedVariables false
set_option linter.unusedSimpArgs false
namespace Go.Proofs.Ytipflplilkecjaa
open Go.RowKit Plain

abbrev EnI (x : Int) : Value := .int .i64 x
abbrev RgI (w : World) (g s room first : Nat) (l : List Int) : Prop := Rg EnI 90 3 w g s room first l
theorem ret_numI {a b : Int} (h : a = b) : Ending.returned (.int .i64 a) = .returned (.int .i64 b) := by rw [h]

section
variable (g s room first : Nat) (l : List Int) (w : World)
set_option maxHeartbeats 1000000 in
theorem slot_anyI (h : RgI w g s room first l) (i : Nat) (hi : i ≤ 1024) (h0 : 0 < room) :
    Calls Try.prog 60 #[.pointer (some ⟨g, 0, none⟩), .int .i64 (i : Int)] w fun e w' => e = .returned (.int .i64 (((first + i) % room : Nat) : Int)) ∧ ∃ n, w' = w.drewN n := by
  have c0 : w.cell? ⟨g, 0, none⟩ = some (.slice (some ⟨s, 0, none⟩) room room) := (h.box.cell 0).trans rfl
  have c1 : w.cell? ⟨g, 1, none⟩ = some (.int .i64 (first : Int)) := (h.box.cell 1).trans rfl
  have c2 : w.cell? ⟨g, 2, none⟩ = some (.int .i64 (l.length : Int)) := (h.box.cell 2).trans rfl
  have hb := h.hi
  have hf : first ≤ 1024 := by rcases h.fi with h | h <;> omega
  have hs : IntKind.i64.wrap ((first : Int) + (i : Int)) = (first : Int) + (i : Int) := IntWalk.i64_in _ (by omega)
  clear h
  go_enter Try.func60, Try.ntmps60
  go_wp2_with fail
  go_quiet (fail)
  go_wp2_with fail
  go_ret
  exact ⟨ret_numI (by simp), _, rfl⟩
set_option maxHeartbeats 1000000 in
theorem len_anyI (h : RgI w g s room first l) :
    Calls Try.prog 56 #[.pointer (some ⟨g, 0, none⟩)] w fun e w' => e = .returned (.int .i64 (l.length : Int)) ∧ w = w' := by
  have c0 : w.cell? ⟨g, 0, none⟩ = some (.slice (some ⟨s, 0, none⟩) room room) := (h.box.cell 0).trans rfl
  have c1 : w.cell? ⟨g, 1, none⟩ = some (.int .i64 (first : Int)) := (h.box.cell 1).trans rfl
  have c2 : w.cell? ⟨g, 2, none⟩ = some (.int .i64 (l.length : Int)) := (h.box.cell 2).trans rfl
  clear h
  go_enter Try.func56, Try.ntmps56
  go_wp2_with fail
  go_ret
  exact ⟨rfl, rfl⟩
set_option maxHeartbeats 1000000 in
theorem room_anyI (h : RgI w g s room first l) :
    Calls Try.prog 59 #[.pointer (some ⟨g, 0, none⟩)] w fun e w' => e = .returned (.int .i64 ((room - l.length : Nat) : Int)) ∧ ∃ n, w' = w.drewN n := by
  have c0 : w.cell? ⟨g, 0, none⟩ = some (.slice (some ⟨s, 0, none⟩) room room) := (h.box.cell 0).trans rfl
  have c1 : w.cell? ⟨g, 1, none⟩ = some (.int .i64 (first : Int)) := (h.box.cell 1).trans rfl
  have c2 : w.cell? ⟨g, 2, none⟩ = some (.int .i64 (l.length : Int)) := (h.box.cell 2).trans rfl
  have hb := h.hi
  have hl := h.len
  have hs : IntKind.i64.wrap ((room : Int) - (l.length : Int)) = ((room - l.length : Nat) : Int) := by rw [IntWalk.i64_in _ (by omega)]; omega
  clear h
  go_enter Try.func59, Try.ntmps59
  go_wp2_with fail
  go_quiet (fail)
  go_wp2_with fail
  go_ret
  exact ⟨rfl, _, rfl⟩
set_option maxHeartbeats 1000000 in
theorem at_yesI (h : RgI w g s room first l) (i : Nat) (x : Int) (hx : l[i]? = some x) :
    Calls Try.prog 67 #[.pointer (some ⟨g, 0, none⟩), .int .i64 (i : Int)] w fun e w' => e = .returned (.tuple #[.int .i64 x, .bool true]) ∧ ∃ n, w' = w.drewN n := by
  have c0 : w.cell? ⟨g, 0, none⟩ = some (.slice (some ⟨s, 0, none⟩) room room) := (h.box.cell 0).trans rfl
  have c1 : w.cell? ⟨g, 1, none⟩ = some (.int .i64 (first : Int)) := (h.box.cell 1).trans rfl
  have c2 : w.cell? ⟨g, 2, none⟩ = some (.int .i64 (l.length : Int)) := (h.box.cell 2).trans rfl
  have hb := h.hi
  have hl := h.len
  have hil : i < l.length := (List.getElem?_eq_some_iff.1 hx).1
  have hc := h.cell hx
  have hj := round_lt first i (room := room) (by omega)
  have H := Lib.hid h
  clear h hx
  have hq := fun n => Calls.quiet_of (slot_anyI g s room first l (w.drewN n) (H.out.drewN n) i (by omega) (by omega))
  generalize (first + i) % room = j at hc hj hq
  have HQ := Lib.hid hq
  clear hq
  have hj0 : (0 : Int) ≤ (j : Int) := by omega
  have hj1 : (j : Int) < (room : Int) := by omega
  have hi0 : decide ((i : Int) < 0) = false := by simp
  have hi1 : (i : Int) < (l.length : Int) := by omega
  go_enter Try.func67, Try.ntmps67
  go_wp2_with fail
  go_quiet ((exact HQ.out _))
  go_wp2_with fail
  go_ret2
  exact ⟨rfl, _, rfl⟩
set_option maxHeartbeats 1000000 in
theorem at_noI (h : RgI w g s room first l) (i : Int) (hi : i < 0 ∨ (l.length : Int) ≤ i) :
    Calls Try.prog 67 #[.pointer (some ⟨g, 0, none⟩), .int .i64 i] w fun e w' => e = .returned (.tuple #[.int .i64 0, .bool false]) ∧ ∃ n, w' = w.drewN n := by
  have c0 : w.cell? ⟨g, 0, none⟩ = some (.slice (some ⟨s, 0, none⟩) room room) := (h.box.cell 0).trans rfl
  have c1 : w.cell? ⟨g, 1, none⟩ = some (.int .i64 (first : Int)) := (h.box.cell 1).trans rfl
  have c2 : w.cell? ⟨g, 2, none⟩ = some (.int .i64 (l.length : Int)) := (h.box.cell 2).trans rfl
  clear h
  by_cases hi0 : i < 0
  · go_enter Try.func67, Try.ntmps67
    go_wp2_with fail
    go_ret2
    exact ⟨rfl, 0, rfl⟩
  · have hi1 : (l.length : Int) ≤ i := by omega
    clear hi
    go_enter Try.func67, Try.ntmps67
    go_wp2_with fail
    go_ret2
    exact ⟨rfl, 0, rfl⟩
set_option maxHeartbeats 1000000 in
theorem slot_cI (hc0 : w.cell? ⟨g, 0, none⟩ = some (.slice (some ⟨s, 0, none⟩) room room)) (hc1 : w.cell? ⟨g, 1, none⟩ = some (.int .i64 (first : Int))) (i : Nat) (hf : first ≤ 1024) (hi : i ≤ 1024) (h0 : 0 < room) (h1 : room ≤ 1024) :
    Calls Try.prog 60 #[.pointer (some ⟨g, 0, none⟩), .int .i64 (i : Int)] w fun e w' => e = .returned (.int .i64 (((first + i) % room : Nat) : Int)) ∧ ∃ n, w' = w.drewN n := by
  have hs : IntKind.i64.wrap ((first : Int) + (i : Int)) = (first : Int) + (i : Int) := IntWalk.i64_in _ (by omega)
  go_enter Try.func60, Try.ntmps60
  go_wp2_with fail
  go_quiet (fail)
  go_wp2_with fail
  go_ret
  exact ⟨ret_numI (by simp), _, rfl⟩
set_option maxHeartbeats 1000000 in
theorem peek_yesI (x : Int) (h : RgI w g s room first (x :: l)) :
    Calls Try.prog 66 #[.pointer (some ⟨g, 0, none⟩)] w fun e w' => e = .returned (.tuple #[.int .i64 x, .int .i64 0]) ∧ ∃ n, w' = w.drewN n := by
  have hq := at_yesI g s room first (x :: l) w h 0 x (by simp)
  rw [show ((0 : Nat) : Int) = 0 from rfl] at hq
  have HQ := Lib.hid hq
  clear hq h
  go_enter Try.func66, Try.ntmps66
  go_wp2_with fail
  refine HQ.out.mono ?_
  rintro e w' ⟨rfl, n, rfl⟩
  go_wp2_with fail
  go_ret2
  exact ⟨rfl, n, rfl⟩
set_option maxHeartbeats 1000000 in
theorem peek_noI (h : RgI w g s room first []) :
    Calls Try.prog 66 #[.pointer (some ⟨g, 0, none⟩)] w fun e w' => e = .returned (.tuple #[.int .i64 0, .int .i64 7]) ∧ ∃ n, w' = w.drewN n := by
  have hq := at_noI g s room first [] w h 0 (.inr (by simp))
  have HQ := Lib.hid hq
  clear hq h
  go_enter Try.func66, Try.ntmps66
  go_wp2_with fail
  refine HQ.out.mono ?_
  rintro e w' ⟨rfl, n, rfl⟩
  go_wp2_with fail
  go_ret2
  exact ⟨rfl, n, rfl⟩
set_option maxHeartbeats 1000000 in
theorem push_noI (h : RgI w g s room first l) (x : Int) (hl : room ≤ l.length) :
    Calls Try.prog 49 #[.pointer (some ⟨g, 0, none⟩), .int .i64 x] w fun e w' => e = .returned (.int .i64 6) ∧ ∃ n, w' = w.drewN n := by
  have hq := room_anyI g s room first l w h
  rw [show room - l.length = 0 by omega] at hq
  have HQ := Lib.hid hq
  clear hq h hl
  go_enter Try.func49, Try.ntmps49
  go_wp2_with fail
  refine HQ.out.mono ?_
  rintro e w' ⟨rfl, n, rfl⟩
  go_wp2_with fail
  go_ret
  exact ⟨rfl, n, rfl⟩
set_option maxHeartbeats 1000000 in
theorem push_yesI (h : RgI w g s room first l) (x : Int) (hl : l.length < room) :
    Calls Try.prog 49 #[.pointer (some ⟨g, 0, none⟩), .int .i64 x] w fun e w' => e = .returned (.int .i64 0) ∧ RgI w' g s room first (l ++ [x]) ∧ Fr (fun i => i = g ∨ i = s) w w' := by
  have c0 : w.cell? ⟨g, 0, none⟩ = some (.slice (some ⟨s, 0, none⟩) room room) := (h.box.cell 0).trans rfl
  have c1 : w.cell? ⟨g, 1, none⟩ = some (.int .i64 (first : Int)) := (h.box.cell 1).trans rfl
  have c2 : w.cell? ⟨g, 2, none⟩ = some (.int .i64 (l.length : Int)) := (h.box.cell 2).trans rfl
  have z0 : w.frozen? ⟨g, 0, none⟩ = false := h.box.frozen 0
  have z1 : w.frozen? ⟨g, 1, none⟩ = false := h.box.frozen 1
  have z2 : w.frozen? ⟨g, 2, none⟩ = false := h.box.frozen 2
  have hq := room_anyI g s room first l w h
  have hsl := fun (W : World) a b => slot_cI g s room first W a b l.length (by have h7 := h.hi; rcases h.fi with h8 | h8 <;> omega) (by have := h.hi; omega) (by omega) h.hi
  have hb := h.hi
  have hne := h.ne
  have hne2 : ¬ g = s := hne
  have hne3 : ¬ s = g := fun e => hne e.symm
  obtain ⟨y, hy1, hy2⟩ := h.slot (round_lt first l.length (room := room) (by omega))
  have hj := round_lt first l.length (room := room) (by omega)
  have hpu := fun k => (h.drewN k).push x hl rfl
  have hfr := fun k => (((Fr.refl (fun i => i = g ∨ i = s) w).drewN k).setCell (p := ⟨s, (first + l.length) % room, none⟩) (.inl (.inr rfl)) (.int .i64 x)).setCell (p := ⟨g, 2, none⟩) (.inl (.inl rfl)) (.int .i64 ((l.length : Int) + 1))
  have hwr : IntKind.i64.wrap ((l.length : Int) + 1) = (l.length : Int) + 1 := IntWalk.i64_in _ (by omega)
  have hr0 : (((room - l.length : Nat) : Int) == 0) = false := by simp; omega
  generalize (first + l.length) % room = j at *
  have hj0 : (0 : Int) ≤ (j : Int) := by omega
  have hj1 : (j : Int) < (room : Int) := by omega
  have HQ := Lib.hid hq; have HS := Lib.hid hsl; have HP := Lib.hid hpu; have HF := Lib.hid hfr
  clear hq h hl hsl hpu hfr hne
  go_enter Try.func49, Try.ntmps49
  go_wp2_with fail
  refine HQ.out.mono ?_
  rintro e w' ⟨rfl, n, rfl⟩
  go_wp2_with fail
  go_region_held3 (fun w' => w'.cell? ⟨g, 0, none⟩ = some (.slice (some ⟨s, 0, none⟩) room room) ∧ w'.cell? ⟨g, 2, none⟩ = some (.int .i64 (l.length : Int)))
    (go_keep)
    ((refine (HS.out _ (by simp [c0]) (by simp [c1])).mono ?_; rintro e w' ⟨rfl, n2, rfl⟩))
  all_goals
    go_wp2_with fail
    go_ret
    exact ⟨rfl, HP.out _, HF.out _⟩
set_option maxHeartbeats 1000000 in
theorem pop_noI (h : RgI w g s room first []) :
    Calls Try.prog 55 #[.pointer (some ⟨g, 0, none⟩)] w fun e w' => e = .returned (.tuple #[.int .i64 0, .int .i64 7]) ∧ ∃ n, w' = w.drewN n := by
  have hq := peek_noI g s room first w h
  have HQ := Lib.hid hq
  clear hq h
  go_enter Try.func55, Try.ntmps55
  go_wp2_with fail
  refine HQ.out.mono ?_
  rintro e w' ⟨rfl, n, rfl⟩
  go_wp2_with fail
  go_ret2
  exact ⟨rfl, n, rfl⟩
set_option maxHeartbeats 1000000 in
theorem pop_yesI (x : Int) (h : RgI w g s room first (x :: l)) :
    Calls Try.prog 55 #[.pointer (some ⟨g, 0, none⟩)] w fun e w' => e = .returned (.tuple #[.int .i64 x, .int .i64 0]) ∧ RgI w' g s room ((first + 1) % room) l ∧ Fr (fun i => i = g ∨ i = s) w w' := by
  have c0 : w.cell? ⟨g, 0, none⟩ = some (.slice (some ⟨s, 0, none⟩) room room) := (h.box.cell 0).trans rfl
  have c1 : w.cell? ⟨g, 1, none⟩ = some (.int .i64 (first : Int)) := (h.box.cell 1).trans rfl
  have c2 : w.cell? ⟨g, 2, none⟩ = some (.int .i64 (((l.length + 1 : Nat) : Int))) := (h.box.cell 2).trans rfl
  have z0 : w.frozen? ⟨g, 0, none⟩ = false := h.box.frozen 0
  have z1 : w.frozen? ⟨g, 1, none⟩ = false := h.box.frozen 1
  have z2 : w.frozen? ⟨g, 2, none⟩ = false := h.box.frozen 2
  have hq := peek_yesI g s room first l w x h
  have hlen := h.len
  simp at hlen
  have hsl := fun (W : World) a b => slot_cI g s room first W a b 1 (by have h7 := h.hi; rcases h.fi with h8 | h8 <;> omega) (by omega) (by omega) h.hi
  rw [show ((1 : Nat) : Int) = 1 from rfl] at hsl
  have hb := h.hi
  have hne2 : ¬ g = s := h.ne
  have hne3 : ¬ s = g := fun e => h.ne e.symm
  have hfi : first < room := by rcases h.fi with h8 | h8 <;> omega
  obtain ⟨y, hy1, hy2⟩ := h.slot hfi
  have hpu := fun k => (h.drewN k).pop (0) rfl
  generalize (first + 1) % room = f at *
  have hfr := fun k => ((((Fr.refl (fun i => i = g ∨ i = s) w).drewN k).setCell (p := ⟨s, first, none⟩) (.inl (.inr rfl)) (.int .i64 0)).setCell (p := ⟨g, 1, none⟩) (.inl (.inl rfl)) (.int .i64 (f : Int))).setCell (p := ⟨g, 2, none⟩) (.inl (.inl rfl)) (.int .i64 (l.length : Int))
  have hwr : IntKind.i64.wrap (((l.length + 1 : Nat) : Int) - 1) = (l.length : Int) := by rw [IntWalk.i64_in _ (by omega)]; omega
  have hj0 : (0 : Int) ≤ (first : Int) := by omega
  have hj1 : (first : Int) < (room : Int) := by omega
  have HQ := Lib.hid hq; have HS := Lib.hid hsl; have HP := Lib.hid hpu; have HF := Lib.hid hfr
  clear hq h hsl hpu hfr
  go_enter Try.func55, Try.ntmps55
  go_wp2_with fail
  refine HQ.out.mono ?_
  rintro e w' ⟨rfl, n, rfl⟩
  go_wp2_with fail
  go_region
  go_wp2_with fail
  refine (HS.out _ ?d0 ?d1).mono ?_
  case d0 => exact (World.cell?_setCell_other _ _ _ _ (fun e => by injection e with e1; omega)).trans c0
  case d1 => exact (World.cell?_setCell_other _ _ _ _ (fun e => by injection e with e1; omega)).trans c1
  rintro e w' ⟨rfl, n2, rfl⟩
  go_wp2_with fail
  go_ret2
  rw [drewN_setCell, World.drewN_drewN]
  exact ⟨rfl, HP.out _, HF.out _⟩
end

theorem info_int : (Try.prog.info? 3).map (fun i => (i.zero, i.size, i.bytes)) = some (some (.int .i64 0), 1, 8) := by kernel_rfl
theorem size_int : (Try.prog.info? 3).map (·.size) = some 1 := by kernel_rfl
set_option maxHeartbeats 1000000 in
theorem fill_anyI (g s room f0 c0 : Nat) (cs : List Value) (l : List Int) (w : World) (hg : Blk w g 90 #[.slice (some ⟨s, 0, none⟩) room room, .int .i64 (f0 : Int), .int .i64 (c0 : Int)]) (hs : Blk w s 3 cs.toArray) (hl : cs.length = room) (hr : room ≤ 1024) (hne : g ≠ s)
    (hcs : ∃ zs : List Int, cs = zs.map EnI)
    (B : Nat) (A : Option Addr) (m c : Nat) (hm : l.length = m) (hR : ∀ w', Fr (fun i => i = g ∨ i = s) w w' → Reads w' B 1 A m (l.map EnI)) :
    Calls Try.prog 61 #[.pointer (some ⟨g, 0, none⟩), .slice A m c] w fun e w' => e = .returned (.tuple #[]) ∧ RgI w' g s room 0 (l.take room) ∧ Fr (fun i => i = g ∨ i = s) w w' := by
  have c0' : w.cell? ⟨g, 0, none⟩ = some (.slice (some ⟨s, 0, none⟩) room room) := (hg.cell 0).trans rfl
  have hz := fun w => (by kernel_rfl : (zeroValue 3).run Try.prog w = .ok (.int .i64 0) w)
  have HG := Lib.hid hg; have HS := Lib.hid hs; have HR := Lib.hid hR; have HL := Lib.hid hl; have HM := Lib.hid hm; have HZ := Lib.hid hz
  clear hg hs hR hl hm hz hcs
  go_enter Try.func61, Try.ntmps61
  go_wp2_with (with_reducible refine wpList_clear_row rfl (.tmp 7) _ rfl 3 (.int .i64 0) Try.underlying26 HZ.out rfl rfl s room room 3 cs rfl HS.out HL.out ?c1)
  case c1 =>
  intro w1 hs1 hf1
  have hg1 := hf1.blk HG.out hne
  have c1' : w1.cell? ⟨g, 0, none⟩ = some (.slice (some ⟨s, 0, none⟩) room room) := (hg1.cell 0).trans rfl
  have c2' : w1.cell? ⟨g, 1, none⟩ = some (.int .i64 (f0 : Int)) := (hg1.cell 1).trans rfl
  have z2' : w1.frozen? ⟨g, 1, none⟩ = false := hg1.frozen 1
  have hg2 := hg1.set_ 1 (.int .i64 0)
  have hs2 := hs1.far (p := ⟨g, 1, none⟩) (Ne.symm hne) (.int .i64 0)
  have hf2 := (hf1.mono (S := fun i => i = g ∨ i = s) (fun i _ h => .inr h)).setCell (p := ⟨g, 1, none⟩) (.inl (.inl rfl)) (.int .i64 0)
  have HG2 := Lib.hid hg2; have HS2 := Lib.hid hs2; have HF2 := Lib.hid hf2
  clear hg1 hs1 hf1 hg2 hs2 hf2
  go_wp2_with (with_reducible refine wpList_copy_row rfl (.tmp 15) (.tmp 16) _ _ rfl 3 Try.underlying26 size_int s room room 3 _ rfl HS2.out (by simp) B A m c _ rfl (HR.out _ HF2.out) ?c2 ?c3)
  case c2 =>
    intro u hu
    obtain ⟨x, _, rfl⟩ := List.mem_map.1 hu
    rfl
  case c3 =>
  intro w2 hs3 hf3
  have hg3 := hf3.blk HG2.out hne
  have c3' : w2.cell? ⟨g, 2, none⟩ = some (.int .i64 (c0 : Int)) := (hg3.cell 2).trans rfl
  have z3' : w2.frozen? ⟨g, 2, none⟩ = false := hg3.frozen 2
  have hg4 := hg3.set_ 2 (.int .i64 ((min m room : Nat) : Int))
  have hs4 := hs3.far (p := ⟨g, 2, none⟩) (Ne.symm hne) (.int .i64 ((min m room : Nat) : Int))
  have hf4 := ((HF2.out).trans hf3 (fun i _ h => .inr h)).setCell (p := ⟨g, 2, none⟩) (.inl (.inl rfl)) (.int .i64 ((min m room : Nat) : Int))
  have HG4 := Lib.hid hg4; have HS4 := Lib.hid hs4; have HF4 := Lib.hid hf4
  clear hg3 hs3 hf3 hg4 hs4 hf4 HG HS HG2 HS2 HF2 HR HZ
  go_wp2_with fail
  go_end0
  have hml := HM.out
  have hln : (l.take room).length = min m room := by rw [List.length_take, hml, Nat.min_comm]
  have hbx := HG4.out
  have hsx := HS4.out
  have hze : (List.replicate room (.int .i64 0)).drop (min m room) = ((List.replicate room (0 : Int)).drop (l.take room).length).map EnI := by
    rw [hln, List.map_drop, List.map_replicate]
  refine ⟨rfl, ⟨?_, ⟨l.take room ++ (List.replicate room (0 : Int)).drop (l.take room).length, ?_, ?_, ?_⟩, ?_, ?_, hr, hne⟩, HF4.out⟩
  · rw [hln]
    simpa using hbx
  · simp; omega
  · rw [List.map_append, List.map_take, ← hze]
    simpa using hsx
  · have := Holds.fill (List.replicate room (0 : Int)) (l.take room) (by simp; omega)
    exact this
  · rw [hln]; omega
  · omega

set_option maxHeartbeats 1000000 in
theorem new_loI (n : Int) (hn : n < 0) (l : List Int) (m : Nat) (hm : l.length = m) (w : World) (B : Nat) (A : Option Addr) (c : Nat) (hr : Reads w B 1 A m (l.map EnI)) (hB : B ≤ w.heap.size) :
    Calls Try.prog 50 #[.int .i64 n, .slice A m c] w fun e w' => ∃ g s, e = .returned (.pointer (some ⟨g, 0, none⟩)) ∧ RgI w' g s 0 0 (l.take 0) ∧ w.heap.size ≤ g ∧ w.heap.size ≤ s ∧ Below w.heap.size w w' := by
  obtain ⟨i0, hi0, hz0, hz1, hz2⟩ := info_parts info_int
  have HR := Lib.hid hr; have HM := Lib.hid hm
  clear hr hm
  go_enter Try.func50, Try.ntmps50
  go_wp2_with (with_reducible refine wpList_make_full _ rfl (.tmp 8) (.tmp 8) _ rfl w.heap.size 3 i0 _ 1 Try.underlying26 hi0 hz0 hz1 _ _ _ _ (0) rfl rfl rfl rfl (by rw [hz2]; omega) (by unfold maxLen; omega) (Nat.le_refl _) ?c5)
  case c5 =>
  intro w1 hown hg
  have hz := hg.size
  rw [made_one] at hown
  have hs := blk_of_full hown
  have hlt := hs.lt
  have HS := Lib.hid hs; have HG := Lib.hid hg
  clear hs hg hown
  go_wp2_with fail
  have hb1 : Below w.heap.size w w1 := (Below.refl _ _).grown HG.out (Nat.le_refl _) (by simp)
  refine (fill_anyI w1.heap.size w.heap.size (0) 0 0 (List.replicate (0) (.int .i64 0)) l _ (Blk.new w1 _ _) (HS.out.alloc _) List.length_replicate (by omega) (by omega) ⟨List.replicate (0) (0 : Int), by rw [List.map_replicate]⟩ B A m c HM.out ?d1).mono ?_
  case d1 =>
    intro w' hf
    refine (HR.out.below (hb1.mono hB)).keep fun q hq => ?_
    have h1 := hf.cell (p := q) (by simp; omega) (by omega)
    rw [h1, World.cell?_alloc_lt _ _ _ (by omega)]
  rintro e w2 ⟨rfl, hq, hf⟩
  go_wp2_with fail
  go_ret
  exact ⟨w1.heap.size, w.heap.size, rfl, hq, hz, Nat.le_refl _, hb1.trans (((Below.refl _ w1).alloc (Nat.le_refl _) _).mono hb1.size |>.trans (hf.below (by simp; omega) (fun i hi => by omega)))⟩

set_option maxHeartbeats 1000000 in
theorem new_midI (room : Nat) (hn : room ≤ 1024) (l : List Int) (m : Nat) (hm : l.length = m) (w : World) (B : Nat) (A : Option Addr) (c : Nat) (hr : Reads w B 1 A m (l.map EnI)) (hB : B ≤ w.heap.size) :
    Calls Try.prog 50 #[.int .i64 (room : Int), .slice A m c] w fun e w' => ∃ g s, e = .returned (.pointer (some ⟨g, 0, none⟩)) ∧ RgI w' g s room 0 (l.take room) ∧ w.heap.size ≤ g ∧ w.heap.size ≤ s ∧ Below w.heap.size w w' := by
  obtain ⟨i0, hi0, hz0, hz1, hz2⟩ := info_parts info_int
  have h1 : (0 : Int) ≤ (room : Int) := by omega
  have h2 : (room : Int) ≤ 1024 := by omega
  have HR := Lib.hid hr; have HM := Lib.hid hm
  clear hr hm
  go_enter Try.func50, Try.ntmps50
  go_wp2_with (with_reducible refine wpList_make_full _ rfl (.tmp 8) (.tmp 8) _ rfl w.heap.size 3 i0 _ 1 Try.underlying26 hi0 hz0 hz1 _ _ _ _ (room) rfl rfl rfl rfl (by rw [hz2]; omega) (by unfold maxLen; omega) (Nat.le_refl _) ?c5)
  case c5 =>
  intro w1 hown hg
  have hz := hg.size
  rw [made_one] at hown
  have hs := blk_of_full hown
  have hlt := hs.lt
  have HS := Lib.hid hs; have HG := Lib.hid hg
  clear hs hg hown
  go_wp2_with fail
  have hb1 : Below w.heap.size w w1 := (Below.refl _ _).grown HG.out (Nat.le_refl _) (by simp)
  refine (fill_anyI w1.heap.size w.heap.size (room) 0 0 (List.replicate (room) (.int .i64 0)) l _ (Blk.new w1 _ _) (HS.out.alloc _) List.length_replicate (by omega) (by omega) ⟨List.replicate (room) (0 : Int), by rw [List.map_replicate]⟩ B A m c HM.out ?d1).mono ?_
  case d1 =>
    intro w' hf
    refine (HR.out.below (hb1.mono hB)).keep fun q hq => ?_
    have h1 := hf.cell (p := q) (by simp; omega) (by omega)
    rw [h1, World.cell?_alloc_lt _ _ _ (by omega)]
  rintro e w2 ⟨rfl, hq, hf⟩
  go_wp2_with fail
  go_ret
  exact ⟨w1.heap.size, w.heap.size, rfl, hq, hz, Nat.le_refl _, hb1.trans (((Below.refl _ w1).alloc (Nat.le_refl _) _).mono hb1.size |>.trans (hf.below (by simp; omega) (fun i hi => by omega)))⟩

set_option maxHeartbeats 1000000 in
theorem new_hiI (n : Int) (hn : 1024 < n) (l : List Int) (m : Nat) (hm : l.length = m) (w : World) (B : Nat) (A : Option Addr) (c : Nat) (hr : Reads w B 1 A m (l.map EnI)) (hB : B ≤ w.heap.size) :
    Calls Try.prog 50 #[.int .i64 n, .slice A m c] w fun e w' => ∃ g s, e = .returned (.pointer (some ⟨g, 0, none⟩)) ∧ RgI w' g s 1024 0 (l.take 1024) ∧ w.heap.size ≤ g ∧ w.heap.size ≤ s ∧ Below w.heap.size w w' := by
  obtain ⟨i0, hi0, hz0, hz1, hz2⟩ := info_parts info_int
  have HR := Lib.hid hr; have HM := Lib.hid hm
  clear hr hm
  go_enter Try.func50, Try.ntmps50
  go_wp2_with (with_reducible refine wpList_make_full _ rfl (.tmp 8) (.tmp 8) _ rfl w.heap.size 3 i0 _ 1 Try.underlying26 hi0 hz0 hz1 _ _ _ _ (1024) rfl rfl rfl rfl (by rw [hz2]; omega) (by unfold maxLen; omega) (Nat.le_refl _) ?c5)
  case c5 =>
  intro w1 hown hg
  have hz := hg.size
  rw [made_one] at hown
  have hs := blk_of_full hown
  have hlt := hs.lt
  have HS := Lib.hid hs; have HG := Lib.hid hg
  clear hs hg hown
  go_wp2_with fail
  have hb1 : Below w.heap.size w w1 := (Below.refl _ _).grown HG.out (Nat.le_refl _) (by simp)
  refine (fill_anyI w1.heap.size w.heap.size (1024) 0 0 (List.replicate (1024) (.int .i64 0)) l _ (Blk.new w1 _ _) (HS.out.alloc _) List.length_replicate (by omega) (by omega) ⟨List.replicate (1024) (0 : Int), by rw [List.map_replicate]⟩ B A m c HM.out ?d1).mono ?_
  case d1 =>
    intro w' hf
    refine (HR.out.below (hb1.mono hB)).keep fun q hq => ?_
    have h1 := hf.cell (p := q) (by simp; omega) (by omega)
    rw [h1, World.cell?_alloc_lt _ _ _ (by omega)]
  rintro e w2 ⟨rfl, hq, hf⟩
  go_wp2_with fail
  go_ret
  exact ⟨w1.heap.size, w.heap.size, rfl, hq, hz, Nat.le_refl _, hb1.trans (((Below.refl _ w1).alloc (Nat.le_refl _) _).mono hb1.size |>.trans (hf.below (by simp; omega) (fun i hi => by omega)))⟩

theorem new_anyI (n : Int) (l : List Int) (m : Nat) (hm : l.length = m) (w : World) (B : Nat) (A : Option Addr) (c : Nat) (hr : Reads w B 1 A m (l.map EnI)) (hB : B ≤ w.heap.size) :
    Calls Try.prog 50 #[.int .i64 n, .slice A m c] w fun e w' => ∃ g s, e = .returned (.pointer (some ⟨g, 0, none⟩)) ∧ RgI w' g s (clampR n) 0 (l.take (clampR n)) ∧ w.heap.size ≤ g ∧ w.heap.size ≤ s ∧ Below w.heap.size w w' := by
  by_cases h1 : n < 0
  · rw [show clampR n = 0 by unfold clampR; omega]
    exact new_loI n h1 l m hm w B A c hr hB
  · by_cases h2 : 1024 < n
    · rw [show clampR n = 1024 by unfold clampR; omega]
      exact new_hiI n h2 l m hm w B A c hr hB
    · obtain ⟨k, rfl⟩ : ∃ k : Nat, n = (k : Int) := ⟨n.toNat, by omega⟩
      rw [show clampR (k : Int) = k by unfold clampR; omega]
      exact new_midI k (by omega) l m hm w B A c hr hB
end Go.Proofs.Ytipflplilkecjaa
