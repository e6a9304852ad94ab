
/-
  The program's own small functions of 'may': within, below, isOp, a list's rule, what is found in a list.
-/
import Derived.Test.YtmjbfobjndiecaaGoodM
import Derived.Test.YtmjbfobjndiecaaPrA
import Derived.Test.YtmjbfobjndiecaaRaw
set_option linter.unusedVariables false
set_option linter.unusedSimpArgs false
namespace Go.Proofs.Ytmjbfobjndiecaa
open Go.RowKit Plain

def withinB (n a b : Int) : Bool := decide (a ≤ n) && decide (n ≤ b)
def belowB (m n : Int) : Bool := decide (0 ≤ n) && decide (n < m)

theorem within_any (n a b : Int) (w : World) : Calls Try.prog 34 #[.int .i64 n, .int .i64 a, .int .i64 b] w fun e w' => e = .returned (.bool (withinB n a b)) ∧ w = w' := by
  go_enter Try.func34, Try.ntmps34
  go_wp2_with fail
  all_goals
    go_ret
    refine ⟨ret_bool ?_, rfl⟩
    unfold withinB
    simp_all
    try omega

/-- The rule of what is told by its place among so many; their number lies in block g. -/
def belowF (g : Nat) : Value := .func (.func 71) #[] #[.pointer (some ⟨g, 0, none⟩)]

theorem below_any (n : Int) (w : World) : Calls Try.prog 36 #[.int .i64 n] w fun e w' => e = .returned (.func (.func 71) #[] #[.pointer (some ⟨w.heap.size, 0, none⟩)]) ∧ w.alloc (.cells #[.int .i64 n] 3) = w' := by
  go_enter Try.func36, Try.ntmps36
  go_wp2_with fail
  go_ret
  exact ⟨rfl, rfl⟩

theorem below1_any (m n : Int) (g : Nat) (w : World) (hb : Blk w g 3 #[.int .i64 m]) : Calls Try.prog 71 #[.int .i64 n, .pointer (some ⟨g, 0, none⟩)] w fun e w' => e = .returned (.bool (belowB m n)) ∧ w = w' := by
  have hc : w.cell? ⟨g, 0, none⟩ = some (.int .i64 m) := (hb.cell 0).trans rfl
  clear hb
  go_enter Try.func71, Try.ntmps71
  go_wp2_with fail
  all_goals
    go_ret
    refine ⟨ret_bool ?_, rfl⟩
    unfold belowB
    simp_all
    try omega

theorem isOp_any (n : Int) (w : World) : Calls Try.prog 92 #[.int .i64 n] w fun e w' => e = .returned (.bool (withinB n 0 26)) ∧ w = w' := by
  go_enter Try.func92, Try.ntmps92
  go_wp2_with fail
  refine (within_any _ _ _ _).mono ?_
  rintro e w' ⟨rfl, rfl⟩
  go_wp2_with fail
  go_ret
  exact ⟨rfl, rfl⟩
theorem rules1_any (n : Int) (w : World) : Calls Try.prog 93 #[.int .i64 n] w fun e w' => e = .returned (.bool (withinB n (-1073741824) 1073741824)) ∧ w = w' := by
  go_enter Try.func93, Try.ntmps93
  go_wp2_with fail
  refine (within_any _ _ _ _).mono ?_
  rintro e w' ⟨rfl, rfl⟩
  go_wp2_with fail
  go_ret
  exact ⟨rfl, rfl⟩

def listB (l : List Int) (m : Int) : Bool := decide (l.length ≤ 8) && l.all (belowB m)
theorem all_take {l : List Int} {P : Int → Bool} {k : Nat} {x : Int} (hx : l[k]? = some x) : (l.take (k + 1)).all P = ((l.take k).all P && P x) := by
  rw [List.take_add_one, hx]; simp

set_option maxHeartbeats 1000000 in
theorem mayList_any (l : List Int) (m : Int) (g : Nat) (w : World) (B : Nat) (A : Option Addr) (n c : Nat) (hr : RI w B A n c l) (hn : n ≤ 9223372036854775807) (hb : Blk w g 3 #[.int .i64 m]) :
    Calls Try.prog 35 #[.slice A n c, .func (.func 71) #[] #[.pointer (some ⟨g, 0, none⟩)]] w fun e w' => e = .returned (.bool (listB l m)) ∧ w = w' := by
  obtain ⟨rfl, hnc, hrd⟩ := hr
  have HR := Lib.hid hrd
  have HB := Lib.hid hb
  clear hrd hb
  by_cases h8 : 8 < l.length
  · have hv : listB l m = false := by simp [listB]; omega
    have HV := Lib.hid hv
    clear hv
    go_enter Try.func35, Try.ntmps35
    go_wp2_with fail
    go_ret
    exact ⟨ret_bool HV.out.symm, rfl⟩
  · have HL : Hid (listB l m = l.all (belowB m)) := by show _ = _; simp [listB]; omega
    go_enter Try.func35, Try.ntmps35
    go_wp2_with fail
    go_loop [12] (fun s => ∃ k : Nat, k ≤ l.length ∧ s = .int .i64 (k : Int) ∧ Hid ((l.take k).all (belowB m) = true)) (fun s => l.length - (intOf s).toNat)
    case atStart => exact ⟨0, by omega, rfl, rfl⟩
    case round =>
      obtain ⟨k, hk, rfl, hall⟩ := hrel
      by_cases hlt : k < l.length
      · obtain ⟨ad, x, rfl, hab, hx, hc⟩ := RI.at_ ⟨rfl, hnc, HR.out⟩ hlt
        have HS := Lib.hid (all_take (P := belowB m) hx)
        have HX := Lib.hid hx
        clear hx
        go_wp2_with fail
        refine (below1_any m x g _ HB.out).mono ?_
        rintro e w' ⟨rfl, rfl⟩
        generalize hbb : belowB m x = b
        cases b
        · have HBB := Lib.hid hbb
          clear hbb
          go_wp2_with fail
          go_ret
          refine ⟨ret_bool ?_, rfl⟩
          rw [HL.out]
          symm
          rw [List.all_eq_false]
          exact ⟨x, List.mem_of_getElem? HX.out, by simp [HBB.out]⟩
        · have HBB := Lib.hid hbb
          clear hbb
          go_wp2_with fail
          exact ⟨⟨k + 1, by omega, by go_num, by show _ = _; rw [HS.out, hall.out, HBB.out]; rfl⟩, by simp [intOf]; omega⟩
      · have hf : l.all (belowB m) = true := by have := hall.out; rwa [List.take_of_length_le (by omega)] at this
        have HFL := Lib.hid hf
        clear hf
        go_wp2_with fail
        go_ret
        exact ⟨ret_bool (by rw [HL.out, HFL.out]), rfl⟩

/-- A number that is below 0 just where x is none of them. -/
def Idx (l : List Int) (x : Int) (e : Ending) : Prop := ∃ z, e = .returned (.int .i64 z) ∧ (decide (0 ≤ z)) = l.contains x
set_option maxHeartbeats 1000000 in
theorem index_any (l : List Int) (x : Int) (w : World) (B : Nat) (A : Option Addr) (n c : Nat) (hr : RI w B A n c l) (hn : n ≤ 9223372036854775807) :
    Calls Try.prog 91 #[.slice A n c, .int .i64 x] w fun e w' => Idx l x e ∧ w = w' := by
  obtain ⟨rfl, hnc, hrd⟩ := hr
  have HR := Lib.hid hrd
  clear hrd
  go_enter Try.func91, Try.ntmps91
  go_wp2_with fail
  go_loop [8] (fun s => ∃ k : Nat, k ≤ l.length ∧ s = .int .i64 (k : Int) ∧ Hid ((l.take k).contains x = false)) (fun s => l.length - (intOf s).toNat)
  case atStart => exact ⟨0, by omega, rfl, rfl⟩
  case round =>
    obtain ⟨k, hk, rfl, hall⟩ := hrel
    by_cases hlt : k < l.length
    · obtain ⟨ad, y, rfl, hab, hx, hc⟩ := RI.at_ ⟨rfl, hnc, HR.out⟩ hlt
      have HX := Lib.hid hx
      clear hx
      by_cases he : x = y
      · subst he
        go_wp2_with fail
        go_ret
        refine ⟨⟨_, rfl, ?_⟩, rfl⟩
        rw [List.contains_eq_mem, decide_eq_true (List.mem_of_getElem? HX.out)]
        simp
      · have hne : (x == y) = false := by simpa using he
        have HE := Lib.hid he
        clear he
        go_wp2_with fail
        refine ⟨⟨k + 1, by omega, by go_num, ?_⟩, by simp [intOf]; omega⟩
        show _ = _
        rw [List.take_add_one, HX.out]
        have h1 := hall.out
        simp only [List.contains_eq_mem, decide_eq_false_iff_not] at h1 ⊢
        simp only [Option.toList_some, List.mem_append, List.mem_singleton, not_or]
        exact ⟨h1, HE.out⟩
    · have hf : l.contains x = false := by have := hall.out; rwa [List.take_of_length_le (by omega)] at this
      have HFL := Lib.hid hf
      clear hf
      go_wp2_with fail
      go_ret
      exact ⟨⟨-1, rfl, by rw [HFL.out]; rfl⟩, rfl⟩
theorem contains_any (l : List Int) (x : Int) (w : World) (B : Nat) (A : Option Addr) (n c : Nat) (hr : RI w B A n c l) (hn : n ≤ 9223372036854775807) :
    Calls Try.prog 72 #[.slice A n c, .int .i64 x] w fun e w' => e = .returned (.bool (l.contains x)) ∧ w = w' := by
  have HR := Lib.hid hr
  clear hr
  go_enter Try.func72, Try.ntmps72
  go_wp2_with fail
  refine (index_any l x _ B A n c HR.out hn).mono ?_
  rintro e w' ⟨⟨z, rfl, hz⟩, rfl⟩
  have HZ := Lib.hid hz
  clear hz
  go_wp2_with fail
  go_ret
  exact ⟨ret_bool HZ.out, rfl⟩
end Go.Proofs.Ytmjbfobjndiecaa
