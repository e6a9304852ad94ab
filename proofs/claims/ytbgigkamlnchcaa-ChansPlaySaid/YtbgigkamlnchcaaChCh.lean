
/-
  How many places a channel has; the document's Index and Choice; states of ChansChoice.
-/
import Derived.Test.YtbgigkamlnchcaaChZ
import Derived.Test.YtbgigkamlnchcaaChK
set_option linter.unusedVariables false
set_option linter.unusedSimpArgs false
namespace Go.Proofs.Ytbgigkamlnchcaa
open Go.RowKit Plain

namespace Plain
def rm4 (x y z u : Int) (m : Nat) : Int := match m with | 0 => x | 1 => y | 2 => z | _ => u
def roomV (x y z u : Int) (m : Nat) : Int := aroundV (rm4 x y z u m) 4
theorem roomV_lt (x y z u : Int) (m : Nat) : 0 ≤ roomV x y z u m ∧ roomV x y z u m < 4 := aroundV_lt (by omega)
def chV (x : Int) : Nat := (aroundV x 4).toNat
theorem chV_eq (x : Int) : aroundV x 4 = ((chV x : Nat) : Int) := by
  have := aroundV_lt (n := x) (m := 4) (by omega)
  unfold chV
  omega
theorem chV_lt (x : Int) : chV x < 4 := by
  have := aroundV_lt (n := x) (m := 4) (by omega)
  unfold chV
  omega
def addCh (out : List Nat) (m : Nat) : List Nat := if m ∈ out then out else out ++ [m]
def pickV (l : List Int) : List Nat := l.foldl (fun out x => addCh out (chV x)) []
theorem pickV_snoc (l : List Int) (x : Int) : pickV (l ++ [x]) = addCh (pickV l) (chV x) := by simp [pickV]
def choiceV (l : List Int) : List Nat := if pickV (l.take 5) = [] then [0] else pickV (l.take 5)
theorem addCh_ok {out : List Nat} {m : Nat} (h1 : out.Nodup) (h2 : ∀ k ∈ out, k < 4) (hm : m < 4) : (addCh out m).Nodup ∧ (∀ k ∈ addCh out m, k < 4) ∧ (addCh out m).length ≤ out.length + 1 := by
  unfold addCh
  split
  · exact ⟨h1, h2, by omega⟩
  · rename_i hn
    refine ⟨?_, fun k hk => ?_, by simp⟩
    · rw [List.nodup_append]
      exact ⟨h1, by simp, fun a ha b hb e => by simp at hb; subst hb; subst e; exact hn ha⟩
    · rw [List.mem_append] at hk
      rcases hk with hk | hk
      · exact h2 k hk
      · simp at hk; omega
theorem pickV_ok : ∀ (l : List Int) (out : List Nat), out.Nodup → (∀ k ∈ out, k < 4) → (l.foldl (fun out x => addCh out (chV x)) out).Nodup ∧ (∀ k ∈ l.foldl (fun out x => addCh out (chV x)) out, k < 4) ∧ (l.foldl (fun out x => addCh out (chV x)) out).length ≤ out.length + l.length
  | [], out, h1, h2 => ⟨h1, h2, by simp⟩
  | x :: l, out, h1, h2 => by
    have h3 := addCh_ok h1 h2 (chV_lt x)
    have h4 := pickV_ok l (addCh out (chV x)) h3.1 h3.2.1
    refine ⟨h4.1, h4.2.1, ?_⟩
    have := h4.2.2
    have := h3.2.2
    simp at *
    omega
theorem choiceV_ok (l : List Int) : (choiceV l).Nodup ∧ (∀ k ∈ choiceV l, k < 4) ∧ 0 < (choiceV l).length ∧ (choiceV l).length ≤ 5 := by
  have h := pickV_ok (l.take 5) [] (by simp) (by simp)
  have h5 : (l.take 5).length ≤ 5 := List.length_take_le _ _
  unfold choiceV
  split
  · exact ⟨by simp, by simp, by simp, by simp⟩
  · rename_i hne
    exact ⟨h.1, h.2.1, List.length_pos_iff.2 hne, by have := h.2.2; simp at this; unfold pickV; simp; omega⟩
theorem idxV_ge : ∀ (l : List Int) (x : Int) (i : Nat), x ∈ l → 0 ≤ idxV x l i
  | [], x, i, h => by simp at h
  | y :: r, x, i, h => by
    unfold idxV
    split
    · omega
    · rename_i hne
      refine idxV_ge r x (i + 1) ?_
      rcases List.mem_cons.1 h with e | e
      · exact absurd e.symm hne
      · exact e
theorem idxV_no : ∀ (l : List Int) (x : Int) (i : Nat), x ∉ l → idxV x l i = -1
  | [], x, i, h => rfl
  | y :: r, x, i, h => by
    unfold idxV
    rw [if_neg (fun e => h (by simp [e]))]
    exact idxV_no r x (i + 1) (fun e => h (by simp [e]))
theorem natI_mem {L : List Nat} {m : Nat} : ((m : Nat) : Int) ∈ natI L ↔ m ∈ L :=
  ⟨fun h => by
    obtain ⟨a, h1, h2⟩ := List.mem_map.1 h
    have : a = m := by omega
    exact this ▸ h1, fun h => List.mem_map.2 ⟨m, h, rfl⟩⟩
/-- Ready: something is received, and none waits. -/
theorem recv_ready {K n : Nat} {s : Ck} (O : CkOk K n s) {m : Nat} (hm : m < n) (t : Int) (h : readyV s m = true) : (recvV s m t).2.2.2 = true ∧ (recvV s m t).1.rq = s.rq := by
  have he := O.ev m
  unfold recvV admitV
  split
  · rename_i x y q e
    unfold takeV
    simp only
    rw [gl_set (by rw [O.l1]; exact hm)]
    cases hb : gl s.bf m with
    | nil => exact ⟨rfl, rfl⟩
    | cons v r => exact ⟨rfl, rfl⟩
  · rename_i hne
    have hs : gl s.sq m = [] := by
      cases hq : gl s.sq m with
      | nil => rfl
      | cons x l =>
        cases l with
        | nil => rw [hq] at he; simp at he
        | cons y r => exact absurd hq (hne x y r)
    unfold takeV
    unfold readyV at h
    rw [hs] at h
    cases hb : gl s.bf m with
    | nil => rw [hb] at h; simp at h
    | cons v r => exact ⟨rfl, rfl⟩
theorem send_rq {s : Ck} {m : Nat} (h : gl s.rq m = []) (room t v : Int) : (sendV s m room t v).1.rq = s.rq := by
  unfold sendV
  rw [h]
  simp only
  split <;> rfl
theorem cancel_did (s : Ck) (t : Int) : didV (cancelV s t) t = false := by
  unfold didV cancelV
  simp only
  rw [List.any_eq_false]
  intro l hl
  obtain ⟨l0, _, rfl⟩ := List.mem_map.1 hl
  simp
  intro hh
  exact (mem_wo.1 hh).2 rfl
theorem rep_did (n : Nat) (t : Int) {s : Ck} (h : s.rq = List.replicate n []) : didV s t = false := by
  unfold didV
  rw [h, List.any_eq_false]
  intro l hl
  rw [List.mem_replicate] at hl
  rw [hl.2]
  simp
theorem waitAll_rq (t : Int) : ∀ (l : List Nat) (s : Ck) (m : Nat), l.Nodup → (∀ k ∈ l, k < s.rq.length) → gl (waitAll t l s).rq m = if m ∈ l then gl s.rq m ++ [t] else gl s.rq m
  | [], s, m, _, _ => by simp [waitAll]
  | k :: l, s, m, hn, hl => by
    have hk := hl k (by simp)
    have hkn : k ∉ l := (List.nodup_cons.1 hn).1
    show gl (waitAll t l { s with rq := s.rq.set k (gl s.rq k ++ [t]) }).rq m = _
    rw [waitAll_rq t l _ m (List.nodup_cons.1 hn).2 (fun j hj => by simpa using hl j (by simp [hj]))]
    by_cases hmk : m = k
    · subst hmk
      rw [if_neg hkn, if_pos (by simp)]
      exact gl_set hk _
    · have e : gl (s.rq.set k (gl s.rq k ++ [t])) m = gl s.rq m := gl_set_ne (fun e => hmk e.symm) _
      by_cases hml : m ∈ l
      · rw [if_pos hml, if_pos (by simp [hml])]
        simp only [e]
      · rw [if_neg hml, if_neg (by simp [hmk, hml])]
        exact e
end Plain
theorem gn_mem_ {l : List Int} {m : Nat} (h : m < l.length) : gn l m ∈ l := List.mem_of_getElem? (gn_some h)
set_option maxHeartbeats 1000000 in
theorem refIndex_any (w : World) (D : Nat → Prop) (A : Option Addr) (c n : Nat) (l : List Int) (x : Int) (hr : RN w D A c l) (hn : l.length = n) (hK : n ≤ 1000000) :
    Calls Try.prog 26 #[.slice A n c, .int .i64 x] w fun e w' => e = .returned (.int .i64 (idxV x l 0)) ∧ w' = w := by
  have HR := Lib.hid hr; have HN := Lib.hid hn
  clear hr hn
  go_enter Try.func26, Try.ntmps26
  go_wp2_with fail
  go_loopw [5] (fun s8 wr => ∃ i : Nat, i ≤ n ∧ s8 = .int .i64 (i : Int) ∧ wr = w ∧ Hid (idxV x l 0 = idxV x (l.drop i) i)) (fun s8 _ => n - (intOf s8).toNat)
  case atStart => exact ⟨0, by omega, rfl, rfl, Lib.hid rfl⟩
  case round =>
    obtain ⟨i, hi, rfl, rfl, HE⟩ := hrel
    by_cases hlt : i < n
    · obtain ⟨ad, rfl, _, _, hcx⟩ := HR.out.at_ (i := i) (by rw [HN.out]; exact hlt)
      have hd : l.drop i = gn l i :: l.drop (i + 1) := by
        have h2 := gn_some (l := l) (m := i) (by rw [HN.out]; exact hlt)
        rw [List.drop_eq_getElem_cons (by rw [HN.out]; exact hlt)]
        rw [List.getElem?_eq_getElem (by rw [HN.out]; exact hlt)] at h2
        rw [Option.some.inj h2]
      generalize gn l i = y at *
      have he := HE.out
      rw [hd, show idxV x (y :: l.drop (i + 1)) i = if y = x then (i : Int) else idxV x (l.drop (i + 1)) (i + 1) from rfl] at he
      have q1 : (i : Int) < (n : Int) := by omega
      have q0 : (0 : Int) ≤ (i : Int) := by omega
      by_cases hxy : y = x
      · rw [if_pos hxy] at he
        have hb : (y == x) = true := by simpa using hxy
        have HE2 := Lib.hid he
        clear he hd hxy HE
        go_wp2_with fail
        go_ret
        exact ⟨by rw [HE2.out]; rfl, rfl⟩
      · rw [if_neg hxy] at he
        have hb : (y == x) = false := by simpa using hxy
        have HE2 := Lib.hid he
        clear he hd hxy HE
        go_wp2_with fail
        exact ⟨⟨i + 1, by omega, by go_num, by trivial, HE2⟩, by simp [intOf]; omega⟩
    · obtain rfl : i = n := by omega
      have he := HE.out
      rw [List.drop_eq_nil_of_le (by rw [HN.out]; exact Nat.le_refl _)] at he
      have HE2 : Hid (idxV x l 0 = -1) := Lib.hid he
      clear he HE
      go_wp2_with fail
      go_ret
      exact ⟨by rw [HE2.out]; rfl, rfl⟩
set_option maxHeartbeats 1000000 in
theorem room_any (w : World) (x y z u : Int) (m : Nat) (hm : m < 4) (hx : -9223372036854775808 ≤ x ∧ x ≤ 9223372036854775807) (hy : -9223372036854775808 ≤ y ∧ y ≤ 9223372036854775807) (hz : -9223372036854775808 ≤ z ∧ z ≤ 9223372036854775807) (hu : -9223372036854775808 ≤ u ∧ u ≤ 9223372036854775807) :
    Calls Try.prog 18 #[.agg #[.int .i64 x, .int .i64 y, .int .i64 z, .int .i64 u], .int .i64 (m : Int)] w fun e w' => e = .returned (.int .i64 (roomV x y z u m)) ∧ Below w.heap.size w w' := by
  have hcs : m = 0 ∨ m = 1 ∨ m = 2 ∨ m = 3 := by omega
  have hblk := Blk.new w 22 #[.int .i64 x, .int .i64 y, .int .i64 z, .int .i64 u]
  obtain ⟨W, hW⟩ : ∃ W, W = w.alloc (.cells #[.int .i64 x, .int .i64 y, .int .i64 z, .int .i64 u] 22) := ⟨_, rfl⟩
  rw [← hW] at hblk
  have hb : Below w.heap.size w W := by rw [hW]; exact (Below.refl _ w).alloc (Nat.le_refl _) _
  have e0 : W.cell? ⟨w.heap.size, 0, none⟩ = some (.int .i64 x) := (hblk.cell 0).trans rfl
  have e1 : W.cell? ⟨w.heap.size, 1, none⟩ = some (.int .i64 y) := (hblk.cell 1).trans rfl
  have e2 : W.cell? ⟨w.heap.size, 2, none⟩ = some (.int .i64 z) := (hblk.cell 2).trans rfl
  have e3 : W.cell? ⟨w.heap.size, 3, none⟩ = some (.int .i64 u) := (hblk.cell 3).trans rfl
  have HB := Lib.hid hb
  clear hblk hb
  have HW := Lib.hid hW
  clear hW
  rcases hcs with rfl | rfl | rfl | rfl
  · have hq := around_any x 4 W hx.1 hx.2 (by omega) (by omega)
    go_enter Try.func18, Try.ntmps18
    go_upto_region 1 with fail
    rw [← HW.out]
    go_wp2_with fail
    refine hq.mono ?_
    rintro e w1 ⟨rfl, rfl⟩
    go_wp2_with fail
    go_ret
    exact ⟨rfl, HB.out⟩
  · have hq := around_any y 4 W hy.1 hy.2 (by omega) (by omega)
    go_enter Try.func18, Try.ntmps18
    go_upto_region 1 with fail
    rw [← HW.out]
    go_wp2_with fail
    refine hq.mono ?_
    rintro e w1 ⟨rfl, rfl⟩
    go_wp2_with fail
    go_ret
    exact ⟨rfl, HB.out⟩
  · have hq := around_any z 4 W hz.1 hz.2 (by omega) (by omega)
    go_enter Try.func18, Try.ntmps18
    go_upto_region 1 with fail
    rw [← HW.out]
    go_wp2_with fail
    refine hq.mono ?_
    rintro e w1 ⟨rfl, rfl⟩
    go_wp2_with fail
    go_ret
    exact ⟨rfl, HB.out⟩
  · have hq := around_any u 4 W hu.1 hu.2 (by omega) (by omega)
    go_enter Try.func18, Try.ntmps18
    go_upto_region 1 with fail
    rw [← HW.out]
    go_wp2_with fail
    refine hq.mono ?_
    rintro e w1 ⟨rfl, rfl⟩
    go_wp2_with fail
    go_ret
    exact ⟨rfl, HB.out⟩
set_option maxRecDepth 100000 in
set_option maxHeartbeats 4000000 in
theorem choice_any (w : World) (D : Nat → Prop) (A : Option Addr) (n c : Nat) (l : List Int) (hr : RN w D A c l) (hn : l.length = n) (hb : ∀ x ∈ l, -9223372036854775808 ≤ x ∧ x ≤ 9223372036854775807) :
    Calls Try.prog 22 #[.slice A n c, .int .i64 4] w fun e w' => ∃ v, e = .returned v ∧ OwnI w' w.heap.size v (natI (choiceV l)) ∧ Below w.heap.size w w' := by
  obtain ⟨i0, hi0, hz0, hz1, hz2⟩ := info_parts info_int
  have HR := Lib.hid hr; have HN := Lib.hid hn; have HBD := Lib.hid hb
  obtain ⟨n5, hn5⟩ : ∃ k, k = min n 5 := ⟨_, rfl⟩
  have h5n : n5 ≤ n := by omega
  have h55 : n5 ≤ 5 := by omega
  have HN5 := Lib.hid hn5
  clear hr hn hb hn5
  go_enter Try.func22, Try.ntmps22
  go_wp2_with fail
  go_loopw [5, 6] (fun s5 s6 wr => ∃ (i j : Nat) (A3 : Option Addr) (c3 : Nat), i ≤ n5 ∧ j ≤ i ∧ s5 = .slice A3 j c3 ∧ s6 = .int .i64 (i : Int) ∧ Hid (TellI w wr A3 c3 j (natI (pickV (l.take i))))) (fun _ s6 _ => n5 - (intOf s6).toNat)
  case atStart => exact ⟨0, 0, none, 0, by omega, by omega, rfl, rfl, Lib.hid ⟨World.ownsRow_nil _ _ _ _, rfl, Below.refl _ _⟩⟩
  case round =>
    obtain ⟨i, j, A3, c3, hi, hj, rfl, rfl, HI⟩ := hrel
    by_cases hlt : i < n5
    · have hil : i < l.length := by rw [HN.out]; omega
      obtain ⟨ad, rfl, _, _, hcx⟩ := (HR.out.below HI.out.b (Nat.le_refl _)).at_ (i := i) hil
      have hx := gn_some (l := l) (m := i) hil
      have hbx := HBD.out _ (gn_mem_ hil)
      have hsn : pickV (l.take (i + 1)) = addCh (pickV (l.take i)) (chV (gn l i)) := by rw [List.take_add_one, hx]; exact pickV_snoc _ _
      generalize gn l i = x at *
      have har := around_any x 4 wr hbx.1 hbx.2 (by omega) (by omega)
      rw [chV_eq] at har
      have q1 : (i : Int) < (n : Int) := by omega
      have q2 : (i : Int) < 5 := by omega
      have q0 : (0 : Int) ≤ (i : Int) := by omega
      have ho := HI.out.o
      have hnn := HI.out.n
      have hrn := RN.of_own_n hnn ho
      have hix := refIndex_any wr _ A3 c3 j (natI (pickV (l.take i))) ((chV x : Nat) : Int) hrn hnn (by omega)
      unfold OwnI at ho
      rw [hnn] at ho
      have HO := Lib.hid ho; have HIX := Lib.hid hix; have HAR := Lib.hid har; have HNN := Lib.hid hnn
      obtain ⟨L0, hL0⟩ : ∃ L0, L0 = pickV (l.take i) := ⟨_, rfl⟩
      rw [← hL0] at hsn HO HIX HNN HI
      have HSN := Lib.hid hsn
      have HL0 := Lib.hid hL0
      clear ho hnn hrn hix har hx hbx hil hsn hL0
      generalize chV x = m at *
      by_cases hm : m ∈ L0
      · have hge := idxV_ge (natI L0) ((m : Nat) : Int) 0 (natI_mem.2 hm)
        have hs2 := HSN.out
        unfold addCh at hs2
        rw [if_pos hm] at hs2
        generalize idxV ((m : Nat) : Int) (natI L0) 0 = ix at *
        have q3 : decide (ix < 0) = false := by simp; omega
        have HS2 := Lib.hid hs2
        clear hs2 hge hm HSN
        go_wp2_with fail
        refine HAR.out.mono ?_
        rintro e w1 ⟨rfl, rfl⟩
        go_wp2_with fail
        refine HIX.out.mono ?_
        rintro e w1 ⟨rfl, rfl⟩
        go_wp2_with fail
        exact ⟨⟨i + 1, j, A3, c3, by omega, by omega, rfl, by go_num, Lib.hid (by rw [HS2.out]; exact HI.out)⟩, by simp [intOf]; omega⟩
      · have hno := idxV_no (natI L0) ((m : Nat) : Int) 0 (fun e => hm (natI_mem.1 e))
        rw [hno] at HIX
        have hs2 := HSN.out
        unfold addCh at hs2
        rw [if_neg hm] at hs2
        have HS2 := Lib.hid hs2
        clear hs2 hno hm HSN
        go_wp2_with fail
        refine HAR.out.mono ?_
        rintro e w1 ⟨rfl, rfl⟩
        go_wp2_with fail
        refine HIX.out.mono ?_
        rintro e w1 ⟨rfl, rfl⟩
        go_wp2_with (at_builtin; go_must (refine wpList_append_any _ rfl (.tmp 28) (.tmp 30) _ rfl w.heap.size 3 i0 _ 1 8 Try.underlying25 hi0 hz0 hz1 hz2 rfl (by decide) (.slice A3 j c3) j _ rfl (own_later HO.out ((Below.refl _ _).alloc (Nat.le_refl _) _)) _ _ 1 1 [.int .i64 ((m : Nat) : Int)] rfl (reads_one_int _ _ _) (by simp [Value.oneCell']) ?f1 ?f2 ?f3 ?f4))
        case f1 => unfold maxLen; omega
        case f2 => omega
        case f3 => have := HI.out.b.size; simp; omega
        case f4 =>
        intro v3 w3 hown3 hgr hat
        obtain ⟨A4, c4, rfl⟩ := own_form_any hown3
        have hnx : TellI w w3 A4 c4 (j + 1) (natI (pickV (l.take (i + 1)))) := by
          rw [HS2.out]
          refine ⟨?_, by unfold natI; rw [List.length_map, List.length_append, ← List.length_map (fun (m : Nat) => (m : Int)), HNN.out]; rfl, ?_⟩
          · unfold OwnI natI
            rw [List.map_append, List.length_append, HNN.out, List.map_append]
            simpa using hown3
          · have hb1 := HI.out.b
            have hzz := hb1.size
            exact (hb1.alloc hzz _).grown hgr (by simp; omega) (fun r hr => (own_blk HO.out hr).1)
        have HNX := Lib.hid hnx
        clear hown3 hgr hat hnx HI HO
        go_wp2_with fail
        exact ⟨⟨i + 1, j + 1, A4, c4, by omega, by omega, rfl, by go_num, HNX⟩, by simp [intOf]; omega⟩
    · obtain rfl : i = n5 := by omega
      have htk : l.take i = l.take 5 := by
        have := HN5.out
        have h8 := HN.out
        rcases Nat.le_total n 5 with h9 | h9
        · rw [List.take_of_length_le (by omega), List.take_of_length_le (by omega)]
        · rw [show i = 5 by omega]
      have hI := HI.out
      rw [htk] at hI
      have hcv : choiceV l = if pickV (l.take 5) = [] then [0] else pickV (l.take 5) := rfl
      have hj0 : j = (pickV (l.take 5)).length := by have := hI.n; simpa using this.symm
      have HJ0 := Lib.hid hj0; have HCV := Lib.hid hcv; have HI2 := Lib.hid hI
      have hend : ¬ ((i : Int) < (n : Int) ∧ (i : Int) < 5) := by have := HN5.out; omega
      have hz : j = 0 → choiceV l = [0] := fun h0 => by
        rw [hcv, if_pos (List.eq_nil_of_length_eq_zero (by omega))]
      have hnz : j ≠ 0 → choiceV l = pickV (l.take 5) := fun h0 => by
        rw [hcv, if_neg (fun e => h0 (by rw [hj0, e]; rfl))]
      have HZ := Lib.hid hz; have HNZ := Lib.hid hnz
      clear hI htk hcv hj0 HI hz hnz
      have hzero : ∀ W, Below w.heap.size w W → OwnI (W.alloc (.cells #[.int .i64 0] 3)) w.heap.size (.slice (some ⟨W.heap.size, 0, none⟩) 1 1) (natI [0]) ∧ Below w.heap.size w (W.alloc (.cells #[.int .i64 0] 3)) := fun W hb =>
        ⟨⟨by simp, .inr ⟨W.heap.size, 1, _, rfl, hb.size, heap_alloc_new W _, Nat.le_refl _, by unfold maxLen; omega, rfl, by simp [natI]⟩⟩, hb.alloc hb.size _⟩
      have HZR := Lib.hid hzero
      clear hzero
      have hfin : ∀ j0, (j : Int) = j0 → True := fun _ _ => trivial
      clear hfin
      by_cases hj0 : j = 0
      · subst hj0
        have HZ2 := Lib.hid (HZ.out rfl)
        clear HZ HNZ
        by_cases hge : (i : Int) < (n : Int)
        · have hge2 : ¬ (i : Int) < 5 := fun e => hend ⟨hge, e⟩
          clear hend
          go_wp2_with fail
          go_ret
          rw [HZ2.out]
          exact ⟨_, rfl, HZR.out _ HI2.out.b⟩
        · clear hend
          go_wp2_with fail
          go_ret
          rw [HZ2.out]
          exact ⟨_, rfl, HZR.out _ HI2.out.b⟩
      · have HNZ2 := Lib.hid (HNZ.out hj0)
        have q9 : ((j : Int) == 0) = false := by rw [beq_eq_false_iff_ne]; omega
        clear HZ HNZ
        by_cases hge : (i : Int) < (n : Int)
        · have hge2 : ¬ (i : Int) < 5 := fun e => hend ⟨hge, e⟩
          clear hend
          go_wp2_with fail
          go_ret
          rw [HNZ2.out]
          exact ⟨_, rfl, HI2.out.o, HI2.out.b⟩
        · clear hend
          go_wp2_with fail
          go_ret
          rw [HNZ2.out]
          exact ⟨_, rfl, HI2.out.o, HI2.out.b⟩
end Go.Proofs.Ytbgigkamlnchcaa
