
/-
  slices.Clone, slices.Index of rows of numbers; a deque's calls: Len, Room, List, Push, out, Pop, Steal, pull.
-/
import Derived.Test.YtipflplilkecjaaDqA
set_option linter.unusedVariables false
set_option linter.unusedSimpArgs false
namespace Go.Proofs.Ytipflplilkecjaa
open Go.RowKit Plain

set_option maxRecDepth 100000 in
set_option maxHeartbeats 1000000 in
theorem clone_any (l : List Int) (n c B : Nat) (ad : Addr) (w : World) (hl : l.length = n) (hR : Reads w B 1 (some ad) n (l.map EnI)) (hn : n ≤ 100000) (hB : B ≤ w.heap.size) :
    Calls Try.prog 41 #[.slice (some ad) n c] w fun e w' => ∃ v, e = .returned v ∧ OwnI w' w.heap.size v l ∧ Below w.heap.size w w' := by
  obtain ⟨i0, hi0, hz0, hz1, hz2⟩ := info_parts info_int
  have HR := Lib.hid hR; have HL := Lib.hid hl
  have hnil := fun W => Go.Lib.run_eql_slice_nil (P := Try.prog) W 26 3 (some ad) n c 0 0 Try.underlying26
  clear hR hl
  go_enter Try.func41, Try.ntmps41
  have hown : (w.alloc (.cells #[] 3)).ownsRow w.heap.size 3 1 (.slice (some ⟨w.heap.size, 0, none⟩) 0 0) 0 [] := ⟨rfl, .inr ⟨w.heap.size, 0, #[], rfl, Nat.le_refl _, heap_alloc_new w _, Nat.le_refl _, by unfold maxLen; omega, rfl, rfl⟩⟩
  go_wp2_with (at_builtin; go_must (refine wpList_append_any _ rfl (.tmp 5) (.tmp 6) _ rfl w.heap.size 3 i0 _ 1 8 Try.underlying26 hi0 hz0 hz1 hz2 rfl (by decide) (.slice (some ⟨w.heap.size, 0, none⟩) 0 0) 0 [] rfl hown _ _ n c (l.map EnI) rfl (HR.out.alloc hB _) ?f0 ?f1 ?f2 ?f3 ?f4))
  case f0 => intro u hu; obtain ⟨x, _, rfl⟩ := List.mem_map.1 hu; rfl
  case f1 => unfold maxLen; omega
  case f2 => omega
  case f3 => simp
  case f4 =>
  intro v5 w6 hown6 hgr hat
  have hbel : Below w.heap.size w w6 := ((Below.refl w.heap.size w).alloc (Nat.le_refl _) _).grown hgr (by simp) (fun r hr => by simp [Value.ownBlock] at hr; omega)
  have hown7 : OwnI w6 w.heap.size v5 l := by
    unfold OwnI
    rw [HL.out]
    simpa using hown6
  have H7 := Lib.hid hown7; have HB := Lib.hid hbel
  clear hown7 hbel hown6 hgr hat hown
  go_wp2_with fail
  go_ret
  exact ⟨_, rfl, H7.out, HB.out⟩

set_option maxHeartbeats 1000000 in
theorem index_hit (l : List Int) (n c B k : Nat) (A : Option Addr) (x : Int) (w : World) (hR : Reads w B 1 A n (l.map EnI)) (hk : l[k]? = some x) (hne : ∀ j : Nat, j < k → l[j]? ≠ some x) (hn : n ≤ 100000) :
    Calls Try.prog 62 #[.slice A n c, .int .i64 x] w fun e w' => e = .returned (.int .i64 (k : Int)) ∧ w = w' := by
  have hl := hR.1
  simp at hl
  have hkn : k < n := by have := (List.getElem?_eq_some_iff.1 hk).1; omega
  have HR := Lib.hid hR; have HK := Lib.hid hk; have HNE := Lib.hid hne; have HL := Lib.hid hl
  clear hR hk hne hl
  go_enter Try.func62, Try.ntmps62
  go_wp2_with fail
  go_loopw [8] (fun s8 wr => ∃ i : Nat, i ≤ k ∧ s8 = .int .i64 (i : Int) ∧ w = wr) (fun s8 _ => n - (intOf s8).toNat)
  case atStart => exact ⟨0, by omega, rfl, rfl⟩
  case round =>
    obtain ⟨i, hi, rfl, rfl⟩ := hrel
    obtain ⟨ad, y, rfl, hab, hy, hcx⟩ := HR.out.num (show i < n by omega)
    by_cases he : x = y
    · have hik : i = k := by
        rcases Nat.lt_or_ge i k with h | h
        · exact absurd (he ▸ hy) (HNE.out i h)
        · omega
      have HIK := Lib.hid hik
      subst he
      clear hy hik
      go_wp2_with fail
      go_ret
      exact ⟨by rw [HIK.out]; rfl, rfl⟩
    · have hik : i ≠ k := by
        rintro rfl
        rw [HK.out] at hy
        injection hy with hy
        exact he hy
      clear hy
      go_wp2_with fail
      exact ⟨⟨i + 1, by omega, by go_num, trivial⟩, by simp [intOf]; omega⟩

set_option maxHeartbeats 1000000 in
theorem index_miss (l : List Int) (n c B : Nat) (A : Option Addr) (x : Int) (w : World) (hR : Reads w B 1 A n (l.map EnI)) (hne : ∀ j : Nat, l[j]? ≠ some x) (hn : n ≤ 100000) :
    Calls Try.prog 62 #[.slice A n c, .int .i64 x] w fun e w' => e = .returned (.int .i64 (-1)) ∧ w = w' := by
  have HR := Lib.hid hR; have HNE := Lib.hid hne
  clear hR hne
  go_enter Try.func62, Try.ntmps62
  go_wp2_with fail
  go_loopw [8] (fun s8 wr => ∃ i : Nat, i ≤ n ∧ s8 = .int .i64 (i : Int) ∧ w = wr) (fun s8 _ => n - (intOf s8).toNat)
  case atStart => exact ⟨0, by omega, rfl, rfl⟩
  case round =>
    obtain ⟨i, hi, rfl, rfl⟩ := hrel
    by_cases hlt : i < n
    · obtain ⟨ad, y, rfl, hab, hy, hcx⟩ := HR.out.num hlt
      have he : ¬ x = y := by rintro rfl; exact HNE.out i hy
      clear hy
      go_wp2_with fail
      exact ⟨⟨i + 1, by omega, by go_num, trivial⟩, by simp [intOf]; omega⟩
    · go_wp2_with fail
      go_ret
      exact ⟨rfl, rfl⟩
end Go.Proofs.Ytipflplilkecjaa
