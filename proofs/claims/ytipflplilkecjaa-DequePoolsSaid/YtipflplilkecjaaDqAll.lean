
/-
  A pool's All.
-/
import Derived.Test.YtipflplilkecjaaDqG
set_option linter.unusedVariables false
set_option linter.unusedSimpArgs false
namespace Go.Proofs.Ytipflplilkecjaa
open Go.RowKit Plain

theorem all_int (l : List Int) : ∀ u ∈ l.map EnI, u.oneCell' = true := fun u hu => by
  obtain ⟨x, _, rfl⟩ := List.mem_map.1 hu
  rfl
section
variable (g d s room : Nat) (Dq : Nat → Prop) (L : List (List Int)) (Q : List Int) (w : World) (h : Pl w g d s room Dq L Q)
include h
theorem globalP (hN : Q.length ≤ 1000000) : Calls Try.prog 28 #[.pointer (some ⟨g, 0, none⟩)] w fun e w' => ∃ v, e = .returned v ∧ OwnI w' (w.heap.size + 1) v Q ∧ Below w.heap.size w w' := by
  obtain ⟨rs, hr1, hr2⟩ := h.qu
  have := global_q g _ Dq rs w hr1 h.lt (by rw [hr2]; exact hN)
  rwa [hr2] at this
set_option maxRecDepth 100000 in
set_option maxHeartbeats 2000000 in
theorem allP (hN : (L.flatten ++ Q).length ≤ 1000000) : Calls Try.prog 32 #[.pointer (some ⟨g, 0, none⟩)] w fun e w' => ∃ v, e = .returned v ∧ OwnI w' w.heap.size v (L.flatten ++ Q) ∧ Below w.heap.size w w' := by
  obtain ⟨i0, hi0, hz0, hz1, hz2⟩ := info_parts info_int
  have c1 := h.cells
  have hN' := hN
  simp only [List.length_append] at hN'
  have hrow := h.row
  obtain ⟨n, hn⟩ : ∃ n, n = L.length := ⟨_, rfl⟩
  rw [← hn] at c1 hrow
  have H := Lib.hid h; have HN := Lib.hid hn; have HB := Lib.hid hN'
  have hn64 := hrow.2.2.2
  have hr8 := hrow.2.2.1
  have HROW := Lib.hid hrow.1
  have hgl : g < w.heap.size := by
    obtain ⟨⟨rs, h1, h2⟩, _⟩ := h
    obtain ⟨A, c, a1, _⟩ := h1.box
    exact a1.lt
  have C1 := Lib.hid c1
  clear h hn hN hN' hrow c1
  go_enter Try.func32, Try.ntmps32
  have c1 := C1.out
  go_wp2_with fail
  clear c1
  go_loopw [3, 10] (fun s3 s10 wr => ∃ (v : Value) (k : Nat) (acc : List Int), v = s3 ∧ k ≤ n ∧ s10 = .int .i64 (k : Int) ∧ Hid (acc = (L.take k).flatten ∧ OwnI wr w.heap.size v acc ∧ Below w.heap.size w wr)) (fun _ s10 _ => n - (intOf s10).toNat)
  case atStart => exact ⟨_, 0, [], rfl, by omega, rfl, Lib.hid ⟨by simp, OwnI.nil _ _, Below.refl _ _⟩⟩
  case round =>
    obtain ⟨v, k, acc, rfl, hk, rfl, HI⟩ := hrel
    have hpl := H.out.below HI.out.2.2 (Nat.le_refl _)
    have c1 : wr.cell? ⟨g, 1, none⟩ = some (.slice (some ⟨d, 0, none⟩) n n) := (HI.out.2.2.cell (p := ⟨g, 1, none⟩) hgl).trans C1.out
    by_cases hlt : k < n
    · have hkl : k < L.length := by have := HN.out; omega
      have hx : L[k]? = some L[k] := List.getElem?_eq_getElem hkl
      generalize L[k] = l at *
      obtain ⟨x0, x1, _⟩ := hpl.dq.cells hx
      have hrd := hpl.dq.reads hx
      have hl8 := HROW.out k l hx
      have hal : acc.length ≤ 1000000 := by
        have := flat_le L k
        have := HB.out
        rw [HI.out.1]
        omega
      have HX := Lib.hid hx; have HRD := Lib.hid hrd
      have hz := HI.out.2.2.size
      have hk0 : (0 : Int) ≤ (k : Int) := by omega
      have hk1 : (k : Int) < (n : Int) := by omega
      clear hpl hx hrd hkl
      go_wp2_with (at_builtin; go_must (refine wpList_append_any _ rfl (.tmp 13) (.tmp 21) _ rfl w.heap.size 3 i0 _ 1 8 Try.underlying26 hi0 hz0 hz1 hz2 rfl (by decide) v acc.length (acc.map EnI) rfl HI.out.2.1 _ _ l.length room (l.map EnI) rfl HRD.out (all_int l) ?f1 ?f2 hz ?f4))
      case f1 => unfold maxLen; omega
      case f2 => omega
      case f4 =>
      intro v5 w6 hown hgr hat
      have hown2 : OwnI w6 w.heap.size v5 (acc ++ l) := by
        unfold OwnI
        simpa using hown
      have hbl : Below w.heap.size w w6 := HI.out.2.2.grown hgr hz (fun r hr => (HI.out.2.1.lt r hr).1)
      have HO := Lib.hid hown2; have HBL := Lib.hid hbl
      clear hown hgr hat hown2 hbl c1 x0 x1
      go_wp2_with fail
      exact ⟨⟨_, k + 1, acc ++ l, rfl, by omega, by go_num, Lib.hid ⟨by rw [flat_succ HX.out, HI.out.1], HO.out, HBL.out⟩⟩, by simp [intOf]; omega⟩
    · have hkn : k = n := by omega
      have hacc : acc = L.flatten := by rw [HI.out.1, hkn, HN.out, List.take_length]
      subst hacc
      have hgq := globalP g d s room Dq L Q wr hpl (by have := HB.out; omega)
      have HGQ := Lib.hid hgq
      have hz := HI.out.2.2.size
      clear hkn hpl hgq
      go_wp2_with fail
      refine HGQ.out.mono ?_
      rintro e w2 ⟨v2, rfl, hown2, hb2⟩
      obtain ⟨A2, c2, rfl, hc2, hr2⟩ := hown2.slice
      have hown3 : OwnI w2 w.heap.size v L.flatten := (Fr.of_below hb2).own HI.out.2.1 (fun i hi => by have := (HI.out.2.1.lt i hi).2; omega)
      have hb3 := HI.out.2.2.trans (hb2.mono hz)
      have hz2' := hb2.size
      have HR2 := Lib.hid hr2; have HO3 := Lib.hid hown3; have HB3 := Lib.hid hb3
      clear hown2 hb2 hr2 hown3 hb3 HGQ c1
      go_wp2_with (at_builtin; go_must (refine wpList_append_any _ rfl (.tmp 24) (.tmp 28) _ rfl w.heap.size 3 i0 _ 1 8 Try.underlying26 hi0 hz0 hz1 hz2 rfl (by decide) v L.flatten.length (L.flatten.map EnI) rfl HO3.out _ _ Q.length c2 (Q.map EnI) rfl HR2.out (all_int Q) ?f1 ?f2 ?f3 ?f4))
      case f1 => have := HB.out; unfold maxLen; omega
      case f2 => have := HB.out; omega
      case f3 => omega
      case f4 =>
      intro v5 w6 hown hgr hat
      have hown2 : OwnI w6 w.heap.size v5 (L.flatten ++ Q) := by
        unfold OwnI
        simpa using hown
      have hbl : Below w.heap.size w w6 := HB3.out.grown hgr HB3.out.size (fun r hr => (HO3.out.lt r hr).1)
      have HO := Lib.hid hown2; have HBL := Lib.hid hbl
      clear hown hgr hat hown2 hbl
      go_wp2_with fail
      go_ret
      exact ⟨_, rfl, HO.out, HBL.out⟩
end
end Go.Proofs.Ytipflplilkecjaa
