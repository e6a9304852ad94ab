
/-
  Senders, Index.
-/
import Derived.Test.YtbgigkamlnchcaaChL
set_option linter.unusedVariables false
set_option linter.unusedSimpArgs false
namespace Go.Proofs.Ytbgigkamlnchcaa
open Go.RowKit Go.Shelf Plain

section
variable {w : World} {B : Nat} {h : ChH} {s : Ck} {K n : Nat}
theorem own_later {w w' : World} {base : Nat} {e : TypeId} {n : Nat} {v : Value} {xs : List Value} (h : w.ownsRow base e 1 v n xs) (hb : Below w.heap.size w w') : w'.ownsRow base e 1 v n xs :=
  (Fr.of_below hb).own h (fun i hi e => by have := own_blk h hi; omega)
theorem own_base {w : World} {base b2 n : Nat} {e : TypeId} {v : Value} {xs : List Value} (h : w.ownsRow base e 1 v n xs) (hb : b2 ≤ base) : w.ownsRow b2 e 1 v n xs := by
  refine ⟨h.1, ?_⟩
  rcases h.2 with h0 | ⟨g, cap, cur, rfl, hb2, hr⟩
  · exact .inl h0
  · exact .inr ⟨g, cap, cur, rfl, Nat.le_trans hb hb2, hr⟩
theorem own_form_any {w : World} {base n : Nat} {e : TypeId} {v : Value} {xs : List Value} (h : w.ownsRow base e 1 v n xs) : ∃ A c, v = .slice A n c := by
  rcases h.2 with ⟨rfl, h0⟩ | ⟨g, cap, cur, rfl, hb2, hr⟩
  · exact ⟨none, 0, by rw [h0]⟩
  · exact ⟨_, cap, rfl⟩
/-- Numbers told under way. -/
structure TellI (w wr : World) (A : Option Addr) (c j : Nat) (l : List Int) : Prop where
  o : OwnI wr w.heap.size (.slice A j c) l
  n : l.length = j
  b : Below w.heap.size w wr
set_option maxRecDepth 100000 in
set_option maxHeartbeats 2000000 in
theorem senders_any (H : ChM w B h s) (O : CkOk K n s) (hN : n ≤ 1000000) (hK : K ≤ 100000) (m : Nat) (hm : m < n) :
    Calls Try.prog 15 #[.agg h.cells, .int .i64 (m : Int)] w fun e w' => ∃ v, e = .returned v ∧ OwnI w' w.heap.size v (sendersV s m) ∧ Below w.heap.size w w' := by
  obtain ⟨i0, hi0, hz0, hz1, hz2⟩ := info_parts info_int
  obtain ⟨p, pcap, Ap, cp, g1, g2, g3, g4, g5, g6, g7⟩ := H.sq.at_ (i := m) (by rw [O.l2]; exact hm)
  have hev := O.ev m
  have hrow := O.row m
  unfold sendersV
  generalize gl s.sq m = row at *
  obtain ⟨W, hW⟩ : ∃ W, W = w.alloc (.cells h.cells 28) := ⟨_, rfl⟩
  have hb : Below w.heap.size w W := by rw [hW]; exact (Below.refl _ _).alloc (Nat.le_refl _) _
  have hbx : Blk W w.heap.size 28 h.cells := by rw [hW]; exact Blk.new _ _ _
  have e8 : W.cell? ⟨w.heap.size, 8, none⟩ = some h.vs := (hbx.cell 8).trans rfl
  have hat2 := at_yes W p n pcap m hm hN _ ((hb.cell (p := ⟨p, m, none⟩) g3).trans g5)
  rw [g1, O.l2] at e8
  have hI0 : ∀ k, TellI w (W.drewN k) none 0 0 (evN row 0) := fun k => ⟨World.ownsRow_nil _ _ _ _, rfl, below_drews hb k⟩
  have hcl := fun W2 (hb2 : Below w.heap.size w W2) => g7.below hb2 (Nat.le_refl _)
  obtain ⟨k, hk⟩ : ∃ k, k = row.length := ⟨_, rfl⟩
  rw [← hk] at hev hrow hat2 g5 ⊢
  have H2 := Lib.hid hat2; have HW := Lib.hid hW; have HI0 := Lib.hid hI0; have HCL := Lib.hid hcl; have HKL := Lib.hid hk
  clear hat2 hW hb H O g1 g2 g3 g4 g5 g6 g7 hbx hI0 hcl hk
  go_enter Try.func15, Try.ntmps15
  go_upto_region 1 with fail
  rw [← HW.out]
  go_wp2_with fail
  refine H2.out.mono ?_
  rintro e w1 ⟨rfl, j, rfl⟩
  go_wp2_with fail
  go_loopw [5, 7] (fun s5 s7 wr => ∃ (j p : Nat) (A3 : Option Addr) (c3 : Nat), p = 2 * j ∧ p ≤ k ∧ s5 = .slice A3 j c3 ∧ s7 = .int .i64 ((p : Int) + 1) ∧ Hid (TellI w wr A3 c3 j (evN row j))) (fun _ s7 _ => k + 1 - (intOf s7).toNat)
  case atStart => exact ⟨0, 0, none, 0, rfl, by omega, rfl, by go_num, Lib.hid (HI0.out _)⟩
  case round =>
    obtain ⟨j, p, A3, c3, hp, hpk, rfl, rfl, HI⟩ := hrel
    by_cases hlt : p + 1 < k
    · obtain ⟨ad, rfl, _, _, hcx⟩ := (HCL.out wr HI.out.b).at_ (i := p) (by rw [← HKL.out]; omega)
      have hsn := evN_succ row j
      rw [← hp] at hsn
      have HSN := Lib.hid hsn
      have HP := Lib.hid hp
      generalize gn row p = x at *
      have q1 : (p : Int) + 1 < (k : Int) := by omega
      have q2 : (0 : Int) ≤ (p : Int) := by omega
      have q3 : (p : Int) < (k : Int) := by omega
      have hj : j ≤ 100000 := by omega
      clear hsn hp e8
      have ho := HI.out.o
      have hn := HI.out.n
      unfold OwnI at ho
      rw [hn] at ho
      have HO := Lib.hid ho; have HNN := Lib.hid hn
      clear ho hn
      go_wp2_with (at_builtin; go_must (refine wpList_append_any _ rfl (.tmp 18) (.tmp 24) _ rfl w.heap.size 3 i0 _ 1 8 Try.underlying25 hi0 hz0 hz1 hz2 rfl (by decide) (.slice A3 j c3) j _ rfl (own_later HO.out ((Below.refl _ _).alloc (Nat.le_refl _) _)) _ _ 1 1 [.int .i64 x] rfl (reads_one_int _ _ _) (by simp [Value.oneCell']) ?f1 ?f2 ?f3 ?f4))
      case f1 => unfold maxLen; omega
      case f2 => omega
      case f3 => have := HI.out.b.size; simp; omega
      case f4 =>
      intro v3 w3 hown3 hgr hat
      obtain ⟨A4, c4, rfl⟩ := own_form_any hown3
      have hnx : TellI w w3 A4 c4 (j + 1) (evN row (j + 1)) := by
        rw [HSN.out]
        refine ⟨?_, by rw [List.length_append, HNN.out]; rfl, ?_⟩
        · unfold OwnI
          rw [List.length_append, HNN.out, List.map_append]
          exact hown3
        · have hb1 := HI.out.b
          have hzz := hb1.size
          exact (hb1.alloc hzz _).grown hgr (by simp; omega) (fun r hr => (own_blk HO.out hr).1)
      have HNX := Lib.hid hnx
      clear hown3 hgr hat hnx HI HO
      go_wp2_with fail
      exact ⟨⟨j + 1, p + 2, A4, c4, by have := HP.out; omega, by omega, rfl, by go_num, HNX⟩, by simp [intOf]; omega⟩
    · have hkp : k / 2 = j := by omega
      have HKP := Lib.hid hkp
      have q1 : ¬ (p : Int) + 1 < (k : Int) := by omega
      clear hp hkp
      go_wp2_with fail
      go_ret
      exact ⟨_, rfl, by rw [HKP.out]; exact HI.out.o, HI.out.b⟩
set_option maxHeartbeats 1000000 in
theorem sIndex_any (w : World) (D : Nat → Prop) (A : Option Addr) (c n : Nat) (l : List Int) (x : Int) (hr : RN w D A c l) (hn : l.length = n) (hK : n ≤ 1000000) :
    Calls Try.prog 42 #[.slice A n c, .int .i64 x] w fun e w' => e = .returned (.int .i64 (idxV x l 0)) ∧ w' = w := by
  have HR := Lib.hid hr; have HN := Lib.hid hn
  clear hr hn
  go_enter Try.func42, Try.ntmps42
  go_wp2_with fail
  go_loopw [8] (fun s8 wr => ∃ i : Nat, i ≤ n ∧ s8 = .int .i64 (i : Int) ∧ wr = w ∧ Hid (idxV x l 0 = idxV x (l.drop i) i)) (fun s8 _ => n - (intOf s8).toNat)
  case atStart => exact ⟨0, by omega, rfl, rfl, Lib.hid rfl⟩
  case round =>
    obtain ⟨i, hi, rfl, rfl, HE⟩ := hrel
    by_cases hlt : i < n
    · obtain ⟨ad, rfl, _, _, hcx⟩ := HR.out.at_ (i := i) (by rw [HN.out]; exact hlt)
      have hd : l.drop i = gn l i :: l.drop (i + 1) := by
        have h2 := gn_some (l := l) (m := i) (by rw [HN.out]; exact hlt)
        rw [List.drop_eq_getElem_cons (by rw [HN.out]; exact hlt)]
        rw [List.getElem?_eq_getElem (by rw [HN.out]; exact hlt)] at h2
        rw [Option.some.inj h2]
      generalize gn l i = y at *
      have he := HE.out
      rw [hd, show idxV x (y :: l.drop (i + 1)) i = if y = x then (i : Int) else idxV x (l.drop (i + 1)) (i + 1) from rfl] at he
      have q1 : (i : Int) < (n : Int) := by omega
      by_cases hxy : y = x
      · rw [if_pos hxy] at he
        have hb : (x == y) = true := by simpa using hxy.symm
        have HE2 := Lib.hid he
        clear he hd hxy HE
        go_wp2_with fail
        go_ret
        exact ⟨by rw [HE2.out]; rfl, rfl⟩
      · rw [if_neg hxy] at he
        have hb : (x == y) = false := by simp; exact fun e => hxy e.symm
        have HE2 := Lib.hid he
        clear he hd hxy HE
        go_wp2_with fail
        exact ⟨⟨i + 1, by omega, by go_num, by trivial, HE2⟩, by simp [intOf]; omega⟩
    · obtain rfl : i = n := by omega
      have he := HE.out
      rw [List.drop_eq_nil_of_le (by rw [HN.out]; exact Nat.le_refl _)] at he
      have HE2 : Hid (idxV x l 0 = -1) := Lib.hid he
      clear he HE
      go_wp2_with fail
      go_ret
      exact ⟨by rw [HE2.out]; rfl, rfl⟩
set_option maxHeartbeats 1000000 in
theorem index_any (w : World) (D : Nat → Prop) (A : Option Addr) (c n : Nat) (l : List Int) (x : Int) (hr : RN w D A c l) (hn : l.length = n) (hK : n ≤ 1000000) :
    Calls Try.prog 25 #[.slice A n c, .int .i64 x] w fun e w' => e = .returned (.int .i64 (idxV x l 0)) ∧ w' = w := by
  have hs := sIndex_any w D A c n l x hr hn hK
  have HS := Lib.hid hs
  clear hs hr hn
  go_enter Try.func25, Try.ntmps25
  go_wp2_with fail
  refine HS.out.mono ?_
  rintro e w1 ⟨rfl, rfl⟩
  go_wp2_with fail
  go_ret
  exact ⟨rfl, rfl⟩
end
end Go.Proofs.Ytbgigkamlnchcaa
