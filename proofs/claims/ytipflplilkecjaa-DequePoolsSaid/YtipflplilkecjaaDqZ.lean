
/-
  A pool: Len, Pull; the document's example.
-/
import Derived.Test.YtipflplilkecjaaDqY
set_option linter.unusedVariables false
set_option linter.unusedSimpArgs false
namespace Go.Proofs.Ytipflplilkecjaa
open Go.RowKit Plain

namespace Plain
theorem first_of {x : Int} : ∀ {l : List Int}, x ∈ l → ∃ k, l[k]? = some x ∧ (∀ j : Nat, j < k → l[j]? ≠ some x) ∧ l.eraseIdx k = l.erase x
  | [], h => by simp at h
  | a :: l, h => by
    by_cases e : a = x
    · subst e
      exact ⟨0, rfl, fun j hj => by omega, by simp⟩
    · have hm : x ∈ l := by
        rcases List.mem_cons.1 h with h | h
        · exact absurd h.symm e
        · exact h
      obtain ⟨k, h1, h2, h3⟩ := first_of hm
      have hb : (a == x) = false := by simpa using e
      refine ⟨k + 1, by simpa using h1, fun j hj => ?_, by rw [List.eraseIdx_cons_succ, h3, List.erase_cons]; simp [hb]⟩
      rcases j with _ | j
      · simpa using e
      · simpa using h2 j (by omega)
def pullP (L : List (List Int)) (Q : List Int) (x : Int) : (List (List Int) × List Int) × Bool :=
  match L.findIdx? (fun l => decide (x ∈ l)) with
  | some k => ((L.set k (((L[k]?).getD []).erase x), Q), true)
  | none => ((L, Q.erase x), decide (x ∈ Q))
theorem pullP_hit {L : List (List Int)} {Q l : List Int} {x : Int} {k : Nat} (hk : L[k]? = some l) (hx : x ∈ l) (hne : ∀ (j : Nat) (l' : List Int), j < k → L[j]? = some l' → x ∉ l') : pullP L Q x = ((L.set k (l.erase x), Q), true) := by
  have hkl := (List.getElem?_eq_some_iff.1 hk).1
  have he := (List.getElem?_eq_some_iff.1 hk).2
  have hf : L.findIdx? (fun l => decide (x ∈ l)) = some k := by
    rw [List.findIdx?_eq_some_iff_getElem]
    refine ⟨hkl, by rw [he]; simpa using hx, fun j hj => ?_⟩
    simpa using hne j _ hj (List.getElem?_eq_getElem (by omega))
  unfold pullP
  rw [hf]
  simp [hk]
theorem pullP_miss {L : List (List Int)} {Q : List Int} {x : Int} (hne : ∀ (j : Nat) (l' : List Int), L[j]? = some l' → x ∉ l') : pullP L Q x = ((L, Q.erase x), decide (x ∈ Q)) := by
  have hf : L.findIdx? (fun l => decide (x ∈ l)) = none := by
    rw [List.findIdx?_eq_none_iff]
    intro l hl
    obtain ⟨j, hj⟩ := List.getElem?_of_mem hl
    simpa using hne j l hj
  unfold pullP
  rw [hf]
theorem flat_succ {L : List (List Int)} {k : Nat} {l : List Int} (h : L[k]? = some l) : (L.take (k + 1)).flatten = (L.take k).flatten ++ l := by
  rw [List.take_add_one, h]
  simp
theorem flat_le (L : List (List Int)) (k : Nat) : ((L.take k).flatten).length ≤ L.flatten.length := by
  have : L.flatten = (L.take k).flatten ++ (L.drop k).flatten := by rw [← List.flatten_append, List.take_append_drop]
  rw [this]
  simp
end Plain
section
variable (g d s room : Nat) (Dq : Nat → Prop) (L : List (List Int)) (Q : List Int) (w : World) (h : Pl w g d s room Dq L Q)
include h
set_option maxHeartbeats 1000000 in
theorem lenP (hN : (L.flatten ++ Q).length ≤ 1000000) : Calls Try.prog 26 #[.pointer (some ⟨g, 0, none⟩)] w fun e w' => e = .returned (.int .i64 ((L.flatten ++ Q).length : Int)) ∧ w = w' := by
  have c1 := h.cells
  obtain ⟨rs, hr1, hr2⟩ := h.qu
  have hN' := hN
  simp only [List.length_append] at hN'
  have hcnt := h.row.2.2.2
  have hq := count_q g _ Dq rs w hr1 (by rw [hr2]; omega)
  rw [hr2] at hq
  obtain ⟨n, hn⟩ : ∃ n, n = L.length := ⟨_, rfl⟩
  rw [← hn] at c1 hcnt
  have H := Lib.hid h; have HQ := Lib.hid hq; have HN := Lib.hid hn; have HB := Lib.hid hN'
  clear h hr1 hr2 hq hN hn hN'
  go_enter Try.func26, Try.ntmps26
  go_wp2_with fail
  refine HQ.out.mono ?_
  rintro e w' ⟨rfl, rfl⟩
  clear HQ
  go_wp2_with fail
  go_loopw [3, 14] (fun s3 s14 wr => ∃ k m : Nat, k ≤ n ∧ s3 = .int .i64 (m : Int) ∧ s14 = .int .i64 (k : Int) ∧ Hid (m = Q.length + ((L.take k).flatten).length) ∧ w = wr) (fun _ s14 _ => n - (intOf s14).toNat)
  case atStart => exact ⟨0, Q.length, by omega, rfl, rfl, Lib.hid (by simp), rfl⟩
  case round =>
    obtain ⟨k, m, hk, rfl, rfl, HM, rfl⟩ := hrel
    by_cases hlt : k < n
    · have hkl : k < L.length := by have := HN.out; omega
      have hx : L[k]? = some L[k] := List.getElem?_eq_getElem hkl
      generalize L[k] = l at *
      have hq := len_dq d s room L k l w H.out.dq hx
      have hm1 := flat_le L (k + 1)
      rw [flat_succ hx, List.length_append] at hm1
      have hwr : IntKind.i64.wrap ((m : Int) + (l.length : Int)) = ((m + l.length : Nat) : Int) := by have := HB.out; have := HM.out; rw [IntWalk.i64_in _ (by omega)]; omega
      have HX := Lib.hid hx; have HQ := Lib.hid hq
      clear hx hkl hm1 hq
      go_wp2_with fail
      refine HQ.out.mono ?_
      rintro e w' ⟨rfl, rfl⟩
      go_wp2_with fail
      exact ⟨⟨k + 1, m + l.length, by omega, rfl, by go_num, Lib.hid (by rw [flat_succ HX.out, List.length_append, HM.out]; omega), trivial⟩, by simp [intOf]; omega⟩
    · have hkn : k = n := by omega
      have hm : m = (L.flatten ++ Q).length := by rw [HM.out, hkn, HN.out, List.take_length, List.length_append]; omega
      have HMM := Lib.hid hm
      clear hkn hm
      go_wp2_with fail
      go_ret
      exact ⟨by rw [HMM.out]; rfl, rfl⟩

set_option maxHeartbeats 2000000 in
theorem pullP_any (x : Int) (hN : Q.length ≤ 1000000) : Calls Try.prog 38 #[.pointer (some ⟨g, 0, none⟩), .int .i64 x] w fun e w' => e = .returned (.bool (pullP L Q x).2) ∧ PlTurn g d s room Dq w w' (pullP L Q x).1 := by
  have c1 := h.cells
  have hcnt := h.row.2.2.2
  obtain ⟨n, hn⟩ : ∃ n, n = L.length := ⟨_, rfl⟩
  rw [← hn] at c1 hcnt
  have H := Lib.hid h; have HN := Lib.hid hn
  clear h hn
  go_enter Try.func38, Try.ntmps38
  go_wp2_with fail
  go_loopw [11] (fun s11 wr => ∃ k : Nat, k ≤ n ∧ s11 = .int .i64 (k : Int) ∧ Hid (∀ (j : Nat) (l' : List Int), j < k → L[j]? = some l' → x ∉ l') ∧ w = wr) (fun s11 _ => n - (intOf s11).toNat)
  case atStart => exact ⟨0, by omega, rfl, Lib.hid (fun j l' hj => by omega), rfl⟩
  case round =>
    obtain ⟨k, hk, rfl, HM, rfl⟩ := hrel
    by_cases hlt : k < n
    · have hkl : k < L.length := by have := HN.out; omega
      have hx : L[k]? = some L[k] := List.getElem?_eq_getElem hkl
      generalize L[k] = l at *
      by_cases hm : x ∈ l
      · obtain ⟨j, h1, h2, h3⟩ := first_of hm
        have hq := pull_dq_yes d s room L k l w x j H.out.dq hx h1 h2
        rw [h3] at hq
        have hp := pullP_hit (Q := Q) hx hm HM.out
        have HQ := Lib.hid hq; have HP := Lib.hid hp
        clear hq hp hm h1 h2 h3 hx hkl
        go_wp2_with fail
        refine HQ.out.mono ?_
        rintro e w' ⟨rfl, hd, hf⟩
        go_wp2_with fail
        go_ret
        obtain ⟨q1, q2⟩ := H.out.deq hf hd (by simp)
        rw [HP.out]
        exact ⟨rfl, Dq, q1, q2, fun _ h => .inl h, rfl⟩
      · have hq := pull_dq_no d s room L k l w x H.out.dq hx (fun j e => hm (List.mem_of_getElem? e))
        have hnx : ∀ (j : Nat) (l' : List Int), j < k + 1 → L[j]? = some l' → x ∉ l' := fun j l' hj e => by
          rcases Nat.lt_or_ge j k with h1 | h1
          · exact HM.out j l' h1 e
          · obtain rfl : j = k := by omega
            rw [hx] at e
            injection e with e
            subst e
            exact hm
        have HQ := Lib.hid hq; have HNX := Lib.hid hnx
        clear hq hnx hm hx hkl
        go_wp2_with fail
        refine HQ.out.mono ?_
        rintro e w' ⟨rfl, rfl⟩
        go_wp2_with fail
        exact ⟨⟨k + 1, by omega, by go_num, HNX, trivial⟩, by simp [intOf]; omega⟩
    · have hp := pullP_miss (L := L) (Q := Q) (x := x) (fun j l' e => HM.out j l' (by have := (List.getElem?_eq_some_iff.1 e).1; have := HN.out; omega) e)
      obtain ⟨rs, hr1, hr2⟩ := H.out.qu
      have hq := pull_q g _ Dq rs w x hr1 H.out.lt (by rw [hr2]; exact hN)
      rw [hr2] at hq
      have HQ := Lib.hid hq; have HP := Lib.hid hp
      clear hq hp hr1 hr2
      go_wp2_with fail
      refine HQ.out.mono ?_
      rintro e w' ⟨rfl, rs', q1, q2, q3⟩
      go_wp2_with fail
      go_ret
      obtain ⟨p1, p2⟩ := H.out.que q3 q1 (fun i hi => .inl hi)
      rw [q2] at p1
      rw [HP.out]
      exact ⟨rfl, _, p1, p2, fun i hi => .inl hi, rfl⟩
end

set_option maxHeartbeats 2000000 in
theorem lives_dq (w : World) : Calls Try.prog 12 #[] w fun e w' => e = .returned (.bool true) ∧ Below w.heap.size w w' := by
  go_enter Try.func12, Try.ntmps12
  go_wp2_with fail
  refine (newP 2 1 2 1 w rfl rfl (by omega) (by omega) (by omega) (by omega)).mono ?_
  rintro e w1 ⟨g, d, s, D0, rfl, hp, hD, hb⟩
  have HP := Lib.hid hp; have HD := Lib.hid hD; have HB := Lib.hid hb
  clear hp hD hb
  go_wp2_with fail
  refine (giveP_any g d s 1 D0 _ [] w1 HP.out 0 5 (by simp)).mono ?_
  rintro e w2 ⟨rfl, D2, hp, hf, hD, -⟩
  have hp2 : Pl w2 g d s 1 D2 [[5], []] [] := hp
  have hb2 : Below w.heap.size w w2 := HB.out.trans (hf.below HB.out.size HD.out)
  have hD2 : ∀ i, PlD d s D2 i → w.heap.size ≤ i := fun i hi => by
    have := HB.out.size
    rcases hi with hi | hi
    · rcases hD i hi with e | e
      · exact HD.out i (.inl e)
      · omega
    · exact HD.out i (.inr hi)
  have HP2 := Lib.hid hp2; have HB2 := Lib.hid hb2; have HD2 := Lib.hid hD2
  clear hp hf hD hp2 hb2 hD2 HP HB HD
  go_wp2_with fail
  refine (giveP_any g d s 1 D2 _ [] w2 HP2.out 0 6 (by simp)).mono ?_
  rintro e w3 ⟨rfl, D3, hp, hf, hD, -⟩
  have hp2 : Pl w3 g d s 1 D3 [[5], []] [6] := hp
  have hb2 : Below w.heap.size w w3 := HB2.out.trans (hf.below HB2.out.size HD2.out)
  have hD2 : ∀ i, PlD d s D3 i → w.heap.size ≤ i := fun i hi => by
    have := HB2.out.size
    rcases hi with hi | hi
    · rcases hD i hi with e | e
      · exact HD2.out i (.inl e)
      · omega
    · exact HD2.out i (.inr hi)
  have HP3 := Lib.hid hp2; have HB3 := Lib.hid hb2; have HD3 := Lib.hid hD2
  clear hp hf hD hp2 hb2 hD2 HP2 HB2 HD2
  go_wp2_with fail
  refine (takeP_any g d s 1 D3 _ [6] w3 HP3.out 0 (by simp)).mono ?_
  rintro e w4 ⟨rfl, D4, hp, hf, hD, -⟩
  have hp2 : Pl w4 g d s 1 D4 [[], []] [6] := hp
  have hb2 : Below w.heap.size w w4 := HB3.out.trans (hf.below HB3.out.size HD3.out)
  have hD2 : ∀ i, PlD d s D4 i → w.heap.size ≤ i := fun i hi => by
    have := HB3.out.size
    rcases hi with hi | hi
    · rcases hD i hi with e | e
      · exact HD3.out i (.inl e)
      · omega
    · exact HD3.out i (.inr hi)
  rw [show (takeP [[5], []] [6] 0).2.1 = 5 from rfl, show (takeP [[5], []] [6] 0).2.2 = 0 from rfl]
  have HP4 := Lib.hid hp2; have HB4 := Lib.hid hb2; have HD4 := Lib.hid hD2
  clear hp hf hD hp2 hb2 hD2 HP3 HB3 HD3
  go_wp2_with fail
  refine (takeP_any g d s 1 D4 _ [6] w4 HP4.out 0 (by simp)).mono ?_
  rintro e w5 ⟨rfl, D5, hp, hf, hD, -⟩
  have hp2 : Pl w5 g d s 1 D5 [[], []] [] := hp
  have hb2 : Below w.heap.size w w5 := HB4.out.trans (hf.below HB4.out.size HD4.out)
  rw [show (takeP [[], []] [6] 0).2.1 = 6 from rfl, show (takeP [[], []] [6] 0).2.2 = 0 from rfl]
  have HP5 := Lib.hid hp2; have HB5 := Lib.hid hb2
  clear hp hf hD hp2 hb2 HP4 HB4 HD4
  go_wp2_with fail
  refine (lenP g d s 1 D5 _ [] w5 HP5.out (by simp)).mono ?_
  rintro e w' ⟨rfl, rfl⟩
  go_wp2_with fail
  go_ret
  exact ⟨rfl, HB5.out⟩
end Go.Proofs.Ytipflplilkecjaa
