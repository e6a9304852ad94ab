
/-
  Broadcast; a row of numbers of one's own beside a state.
-/
import Derived.Test.YtikelkfinjcgaaaLkG
set_option linter.unusedVariables false
set_option linter.unusedSimpArgs false
namespace Go.Proofs.Ytikelkfinjcgaaa
open Go.RowKit Plain

/-- A state, and a row of numbers of one's own beside it. -/
structure RowX (wr : World) (B base : Nat) (h : LkH) (s : Lk) (v : Value) (l : List Int) : Prop where
  m : LkM wr B { h with X := fun k => h.X k ∨ v.ownBlock = some k } s
  o : OwnI wr base v l
  wb : ∀ k, h.W k → k < base
  gb : h.g < base
  bs : base ≤ wr.heap.size
section
variable {w w' : World} {B base : Nat} {h : LkH} {s s' : Lk} {v v' : Value} {l : List Int}
theorem RowX.start (H : LkM w B h s) : RowX w B w.heap.size h s (.slice none 0 0) [] :=
  ⟨by
    have := H.addX (w' := w) (Below.refl _ _) (X' := fun k => (Value.slice none 0 0).ownBlock = some k) (fun k hk => by simp [Value.ownBlock] at hk)
    exact this, OwnI.nil _ _, fun k hk => (H.wlt hk).2.1, H.box.lt, Nat.le_refl _⟩
theorem RowX.turn (R : RowX w B base h s v l) (hT : LkT w w' B { h with X := fun k => h.X k ∨ v.ownBlock = some k } s') : RowX w' B base h s' v l :=
  ⟨hT.1, hT.2.own R.o (fun i hi e => by have := R.wb i e; have := (own_blk R.o hi).1; omega), R.wb, R.gb, Nat.le_trans R.bs hT.2.size⟩
theorem RowX.later (R : RowX w B base h s v l) (hb : Below w.heap.size w w') : RowX w' B base h s v l :=
  ⟨R.m.below hb (Nat.le_refl _), own_later R.o hb, R.wb, R.gb, Nat.le_trans R.bs hb.size⟩
theorem RowX.base_lt (R : RowX w B base h s v l) : base ≤ w.heap.size := R.bs
/-- The row grows. -/
theorem RowX.grow0 (R1 : RowX w B base h s v l) {l' : List Int} (hown : OwnI w' base v' l') (hg : w.grownBy w' v.ownBlock) (ha : v'.ownBlock = v.ownBlock ∨ v'.ownBlock = some w.heap.size) : RowX w' B base h s v' l' := by
  have R := R1
  have hf : Fr (fun k => v.ownBlock = some k) w w' := Fr.of_grown hg
  have hX : ∀ k, v.ownBlock = some k → (fun k => h.X k ∨ v.ownBlock = some k) k ∧ ¬ h.W k ∧ k ≠ h.g := fun k hk => ⟨.inr hk, fun e => by have := R.wb k e; have := (own_blk R.o hk).1; omega, fun e => by have := R.gb; have := (own_blk R.o hk).1; omega⟩
  have hm := R1.m.frX hf hX
  refine ⟨?_, hown, R.wb, R.gb, Nat.le_trans R1.bs hf.size⟩
  rcases ha with ha | ha
  · rw [ha]
    exact hm
  · have hlt := (own_blk hown ha).2.1
    have e1 : ∀ k, v'.ownBlock = some k → k = w.heap.size := fun k hk => by rw [ha] at hk; injection hk with hk; exact hk.symm
    have hm3 : ∀ {u : Value} {L : List (List Int)}, OwnS w B (LkH.D { h with X := fun k => h.X k ∨ v.ownBlock = some k }) u L → OwnS w' B (LkH.D { h with X := fun k => h.X k ∨ v'.ownBlock = some k }) u L → True := fun _ _ => trivial
    have key : ∀ {u : Value} {L : List (List Int)}, OwnS w B (LkH.D { h with X := fun k => h.X k ∨ v.ownBlock = some k }) u L → (∀ i, u.ownBlock = some i → h.W i) → OwnS w' B (LkH.D { h with X := fun k => h.X k ∨ v'.ownBlock = some k }) u L := fun {u L} hs hu => by
      have h1 := hs.mono (E := fun k => (¬ h.W k ∧ ¬ h.X k ∧ v.ownBlock ≠ some k) ∧ k < w.heap.size) (fun i hi hl => ⟨⟨hi.1, fun e => hi.2 (.inl e), fun e => hi.2 (.inr e)⟩, hl⟩)
      exact (h1.fr hf (fun i hi e => (hX i e).2.1 (hu i hi)) (fun i hi _ e => hi.1.2.2 e)).mono (fun i hi _ => ⟨hi.1.1, fun e => e.elim hi.1.2.1 (fun e => by have := e1 i e; have := hi.2; omega)⟩)
    exact ⟨hm.box, hm.own, hm.cnt, key R1.m.lq (fun i hi => .inr (.inr (.inl hi))), key R1.m.wq (fun i hi => .inr (.inr (.inr (.inl hi)))), key R1.m.dq (fun i hi => .inr (.inr (.inr (.inr hi)))), hm.n1, hm.n2, hm.n3, hm.n4, fun k hk => hk.elim (fun e => hm.xlt k (.inl e)) (fun e => (own_blk hown e).2.1)⟩
theorem RowX.grow (R : RowX w B base h s v l) {o : Obj} {l' : List Int} (hown : OwnI w' base v' l') (hg : (w.alloc o).grownBy w' v.ownBlock) (ha : v'.ownBlock = v.ownBlock ∨ v'.ownBlock = some (w.alloc o).heap.size) : RowX w' B base h s v' l' :=
  (R.later ((Below.refl w.heap.size w).alloc (Nat.le_refl _) o)).grow0 hown hg ha
theorem RowX.drop (R : RowX w B base h s v l) : LkM w B h s := R.m.dropX (fun k hk => .inl hk)
end
def lenV : Value → Nat
  | .slice _ n _ => n
  | _ => 0
/-- Where Broadcast stands. -/
structure BI (w wr : World) (B : Nat) (h : LkH) (K c m : Nat) (row : List Int) (fin : Lk × Int) (s : Lk) (got : Int) (v : Value) (acc rest : List Int) : Prop where
  r : RowX wr B w.heap.size h s v acc
  f : Fr h.W w wr
  o : LkOk K s
  hc : c < s.wq.length
  hm : m < s.own.length
  e : acc ++ rest = row
  g : gl s.wq c = rest
  fin : broadV c m rest s got = fin
set_option maxRecDepth 100000 in
set_option maxHeartbeats 4000000 in
theorem broadcast_any {w : World} {B : Nat} {h : LkH} {s : Lk} {K : Nat} (H : LkM w B h s) (O : LkOk K s) (hK : K ≤ 1000000) (c m : Nat) (hc : c < s.wq.length) (hm : m < s.own.length) :
    Calls Try.prog 22 #[.pointer (some ⟨h.g, 0, none⟩), .int .i64 (c : Int), .int .i64 (m : Int)] w fun e w' => ∃ v, e = .returned (.tuple #[v, .int .i64 (broadV c m (gl s.wq c) s (-1)).2]) ∧ RowX w' B w.heap.size h (broadV c m (gl s.wq c) s (-1)).1 v (gl s.wq c) ∧ Fr h.W w w' := by
  obtain ⟨i0, hi0, hz0, hz1, hz2⟩ := info_parts info_int
  have hrl := gl_le s.wq c
  have hrt := O.tt
  obtain ⟨row, hrow⟩ : ∃ row, row = gl s.wq c := ⟨_, rfl⟩
  obtain ⟨fin, hfin⟩ : ∃ fin, fin = broadV c m row s (-1) := ⟨_, rfl⟩
  have hi : BI w w B h K c m row fin s (-1) (.slice none 0 0) [] row := ⟨RowX.start H, Fr.refl _ _, O, hc, hm, rfl, hrow.symm, hfin.symm⟩
  rw [← hrow, ← hfin]
  have hr6 : row.length ≤ 1000000 := by rw [hrow]; omega
  have HI := Lib.hid hi
  clear hi H O hc hm hrl hrt hrow hfin
  go_enter Try.func22, Try.ntmps22
  go_wp2_with fail
  go_loopw [8, 9, 10, 11] (fun s8 s9 _ _ wr => ∃ (s : Lk) (got : Int) (A : Option Addr) (cap : Nat) (acc rest : List Int) (n : Nat), s8 = .slice A n cap ∧ s9 = .int .i64 got ∧ n ≤ row.length ∧ Hid (acc.length = n) ∧ Hid (BI w wr B h K c m row fin s got (.slice A n cap) acc rest)) (fun s8 _ _ _ _ => row.length - lenV s8)
  case atStart => exact ⟨s, -1, none, 0, [], row, 0, rfl, rfl, by omega, Lib.hid rfl, HI⟩
  case round =>
    clear HI
    obtain ⟨s, got, A, cap, acc, rest, n, rfl, rfl, hn, HN, HI⟩ := hrel
    have hsig := signal_any HI.out.r.m HI.out.o hK c m HI.out.hc HI.out.hm
    rw [show (LkH.g { h with X := fun k => h.X k ∨ (Value.slice A n cap).ownBlock = some k }) = h.g from rfl] at hsig
    cases rest with
    | nil =>
      rw [show signalV s c m = (s, -1, false) by unfold signalV; rw [HI.out.g]] at hsig
      have HS := Lib.hid hsig
      clear hsig
      go_wp2_with fail
      refine HS.out.mono ?_
      rintro e w2 ⟨rfl, hT⟩
      have HT := Lib.hid hT
      clear hT HS
      go_wp2_with fail
      go_ret2
      have he := HI.out.e
      rw [List.append_nil] at he
      have hfin := HI.out.fin
      simp only [broadV] at hfin
      subst he
      rw [← hfin]
      exact ⟨_, rfl, HI.out.r.turn HT.out, HI.out.f.trans HT.out.2 (fun _ _ h => h)⟩
    | cons x r =>
      rw [show signalV s c m = ((lockV { s with wq := s.wq.set c r } m x).1, x, (lockV { s with wq := s.wq.set c r } m x).2) by unfold signalV; rw [HI.out.g]] at hsig
      obtain ⟨o1, o2, o3, o4⟩ := HI.out.o.fewer HI.out.hc HI.out.g
      have ho2 := o1.lock (t := x) HI.out.hm o3 o4 o2
      have hlw := lockV_wq { s with wq := s.wq.set c r } m x
      have hfin := HI.out.fin
      simp only [broadV] at hfin
      have hgr : gl (lockV { s with wq := s.wq.set c r } m x).1.wq c = r := by rw [hlw.1]; exact gl_set HI.out.hc r
      have hcw : c < (lockV { s with wq := s.wq.set c r } m x).1.wq.length := by rw [hlw.1]; simpa using HI.out.hc
      have hmw : m < (lockV { s with wq := s.wq.set c r } m x).1.own.length := by rw [hlw.2.1]; exact HI.out.hm
      generalize lockV { s with wq := s.wq.set c r } m x = sb at *
      obtain ⟨s2, b⟩ := sb
      have hnx : n + 1 ≤ row.length := by
        have := congrArg List.length HI.out.e
        have := HN.out
        simp at *
        omega
      have hne : (x == -1) = false := by rw [beq_eq_false_iff_ne]; omega
      have hne2 : ¬ x = -1 := by omega
      have HS := Lib.hid hsig; have HO2 := Lib.hid ho2; have HF := Lib.hid hfin; have HGR := Lib.hid hgr; have HCW := Lib.hid hcw; have HMW := Lib.hid hmw
      clear hsig ho2 hlw hfin hgr hcw hmw o1 o2 o3 o4
      go_wp2_with fail
      refine HS.out.mono ?_
      rintro e w2 ⟨rfl, hT⟩
      have HR := Lib.hid (HI.out.r.turn hT); have HFR := Lib.hid (HI.out.f.trans hT.2 (fun _ _ h => h))
      clear hT HS
      have hacc : w2.ownsRow w.heap.size 3 1 (.slice A n cap) n (acc.map EnI) := by
        have := HR.out.o
        unfold OwnI at this
        rwa [HN.out] at this
      have HACC := Lib.hid hacc
      clear hacc
      go_wp2_with (at_builtin; go_must (refine wpList_append_any _ rfl (.tmp 23) (.tmp 25) _ rfl w.heap.size 3 i0 _ 1 8 Try.underlying22 hi0 hz0 hz1 hz2 rfl (by decide) (.slice A n cap) n (acc.map EnI) rfl (own_later HACC.out ((Below.refl _ _).alloc (Nat.le_refl _) _)) _ _ 1 1 [.int .i64 x] rfl (reads_one_int _ x _) (by simp [Value.oneCell']) ?f1 ?f2 ?f3 ?f4))
      case f1 => unfold maxLen; omega
      case f2 => omega
      case f3 => have := HR.out.bs; simp; omega
      case f4 =>
      intro v3 w3 hown hgr hat
      have hown2 : OwnI w3 w.heap.size v3 (acc ++ [x]) := OwnI.snoc (by rw [HN.out]; exact hown)
      have R3 := HR.out.grow hown2 hgr (by simpa using hat)
      have F3 : Fr h.W w w3 := (HFR.out.alloc _).trans (Fr.of_grown hgr) (fun i hi e => by have := (own_blk HACC.out e).1; omega)
      obtain ⟨A', cap', rfl, _, _⟩ := hown2.slice
      have hl3 : (acc ++ [x]).length = n + 1 := by simp [HN.out]
      rw [hl3] at R3 ⊢
      have HL3 := Lib.hid hl3
      have he3 : (acc ++ [x]) ++ r = row := by rw [← HI.out.e]; simp
      cases b
      · have HI3 := Lib.hid (⟨R3, F3, HO2.out, HCW.out, HMW.out, he3, HGR.out, HF.out⟩ : BI w w3 B h K c m row fin s2 got (.slice A' (n + 1) cap') (acc ++ [x]) r)
        clear hown hgr hat hown2 R3 F3 hl3 he3 HR HFR HACC HO2 HCW HMW HGR HF HI HN
        go_wp2_with fail
        exact ⟨⟨s2, got, A', cap', acc ++ [x], r, n + 1, rfl, rfl, hnx, HL3, HI3⟩, by simp [lenV]; omega⟩
      · have HI3 := Lib.hid (⟨R3, F3, HO2.out, HCW.out, HMW.out, he3, HGR.out, HF.out⟩ : BI w w3 B h K c m row fin s2 x (.slice A' (n + 1) cap') (acc ++ [x]) r)
        clear hown hgr hat hown2 R3 F3 hl3 he3 HR HFR HACC HO2 HCW HMW HGR HF HI HN
        go_wp2_with fail
        exact ⟨⟨s2, x, A', cap', acc ++ [x], r, n + 1, rfl, rfl, hnx, HL3, HI3⟩, by simp [lenV]; omega⟩

namespace Plain
def st2w (n t : Nat) : Lk := if t = n then S1 (-1) [] [[]] else S1 t (seqV (t + 1) (n - 1 - t)) [[]]
def st3 (n j : Nat) : Lk := if j = 0 then S1 (-1) [] [seqV 0 n] else S1 0 (seqV 1 (j - 1)) [seqV j (n - j)]
theorem st2w_ok (n t : Nat) (h : n ≤ 50) (ht : t ≤ n) : LkOk 100 (st2w n t) := by
  have hT : Thr [([] : List Int)] := fun r hr => by simp at hr; subst hr; simp
  unfold st2w
  split
  · exact s1_ok (by omega) (by simp) (fun _ => rfl) hT (by simp [tot]) (by omega) (by simp)
  · exact s1_ok (by omega) (seqV_thr (by omega)) (fun h => by omega) hT (by simp [tot, seqV_len]; omega) (by omega) (by simp)
theorem st2w_len (n t : Nat) : (st2w n t).own.length = 1 ∧ (st2w n t).lq.length = 1 ∧ (st2w n t).wq.length = 1 ∧ (st2w n t).dq.length = 0 := by unfold st2w; split <;> exact ⟨rfl, rfl, rfl, rfl⟩
theorem st2w_own (n t : Nat) (h : t < n) : gn (st2w n t).own 0 = (t : Int) := by
  unfold st2w
  rw [if_neg (by omega)]
  rfl
theorem st2w_step (n t : Nat) (h : t < n) : unlockV (st2w n t) 0 (t : Int) = (st2w n (t + 1), (if t + 1 = n then -1 else (t : Int) + 1), 0) := by
  unfold st2w
  rw [if_neg (by omega), unlock_S1, if_pos rfl]
  by_cases h1 : t + 1 = n
  · rw [if_pos h1, if_pos h1, show n - 1 - t = 0 by omega]
    rfl
  · rw [if_neg h1, if_neg h1]
    obtain ⟨m, hm⟩ : ∃ m, n - 1 - t = m + 1 := ⟨n - 1 - t - 1, by omega⟩
    rw [hm, seqV_cons, show n - 1 - (t + 1) = m by omega]
    rfl
theorem st2w_free (n : Nat) : freeV (st2w n n) = true := by
  unfold st2w
  rw [if_pos rfl]
  rfl
theorem st32 (n : Nat) : st3 n n = st2w n 0 := by
  unfold st3 st2w
  by_cases h : n = 0
  · subst h
    rfl
  · rw [if_neg h, if_neg (by omega)]
    simp [seqV]
theorem thr1 {l : List Int} (h : ∀ y ∈ l, 0 ≤ y ∧ y ≤ 1000000) : Thr [l] := fun r hr => by
  simp at hr
  subst hr
  exact h
theorem st3_ok (n j : Nat) (h : n ≤ 50) (ht : j ≤ n) : LkOk 200 (st3 n j) := by
  unfold st3
  split
  · exact s1_ok (by omega) (by simp) (fun _ => rfl) (thr1 (seqV_thr (by omega))) (by simp [tot, seqV_len]; omega) (by omega) (by simp)
  · exact s1_ok (by omega) (seqV_thr (by omega)) (fun h => by omega) (thr1 (seqV_thr (by omega))) (by simp [tot, seqV_len]; omega) (by omega) (by simp)
theorem st3_len (n j : Nat) : (st3 n j).own.length = 1 ∧ (st3 n j).lq.length = 1 ∧ (st3 n j).wq.length = 1 ∧ (st3 n j).dq.length = 0 := by unfold st3; split <;> exact ⟨rfl, rfl, rfl, rfl⟩
theorem st3_step (n j : Nat) (h : j < n) : signalV (st3 n j) 0 0 = (st3 n (j + 1), (j : Int), decide (j = 0)) := by
  unfold st3
  by_cases h0 : j = 0
  · subst h0
    obtain ⟨m, rfl⟩ : ∃ m, n = m + 1 := ⟨n - 1, by omega⟩
    rw [if_pos rfl, seqV_cons, signal_S1, if_pos rfl, if_neg (by omega)]
    simp [seqV]
  · obtain ⟨i, rfl⟩ : ∃ i, j = i + 1 := ⟨j - 1, by omega⟩
    obtain ⟨m, hm⟩ : ∃ m, n - (i + 1) = m + 1 := ⟨n - (i + 1) - 1, by omega⟩
    rw [if_neg h0, hm, seqV_cons, signal_S1, if_neg (by omega), if_neg (by omega)]
    rw [show n - (i + 1 + 1) = m by omega, show i + 1 + 1 - 1 = i + 1 by omega, show i + 1 - 1 = i by omega, ← seqV_snoc 1 i, show ((1 + i : Nat) : Int) = ((i + 1 : Nat) : Int) by omega]
    simp
theorem st3_end (n : Nat) : signalV (st3 n n) 0 0 = (st3 n n, -1, false) := by
  rw [st32]
  unfold st2w
  split <;> rfl
theorem broad_S1 : ∀ (row l : List Int) (x got : Int), x ≠ -1 → broadV 0 0 row (S1 x l [row]) got = (S1 x (l ++ row) [[]], got)
  | [], l, x, got, _ => by simp [broadV]
  | y :: r, l, x, got, hx => by
    have hl := lock_S1 x l [r] y
    rw [if_neg hx] at hl
    have hs : { S1 x l [y :: r] with wq := (S1 x l [y :: r]).wq.set 0 r } = S1 x l [r] := rfl
    simp only [broadV]
    rw [hs, hl]
    simp only [Bool.false_eq_true, if_false]
    rw [broad_S1 r (l ++ [y]) x got hx]
    simp
theorem st3_broad (n j : Nat) (h : j ≤ n) : broadV 0 0 (gl (st3 n j).wq 0) (st3 n j) (-1) = (st2w n 0, if j = 0 ∧ 0 < n then 0 else -1) ∧ gl (st3 n j).wq 0 = seqV j (n - j) := by
  by_cases h0 : j = 0
  · subst h0
    cases n with
    | zero => exact ⟨rfl, rfl⟩
    | succ m =>
      refine ⟨?_, rfl⟩
      rw [if_pos ⟨rfl, by omega⟩]
      have e1 : st3 (m + 1) 0 = S1 (-1) [] [(0 : Int) :: seqV 1 m] := by
        unfold st3
        rw [if_pos rfl, seqV_cons]
        rfl
      rw [e1]
      have hl := lock_S1 (-1) [] [seqV 1 m] 0
      rw [if_pos rfl] at hl
      have hs : { S1 (-1) [] [(0 : Int) :: seqV 1 m] with wq := (S1 (-1) [] [(0 : Int) :: seqV 1 m]).wq.set 0 (seqV 1 m) } = S1 (-1) [] [seqV 1 m] := rfl
      show broadV 0 0 ((0 : Int) :: seqV 1 m) _ _ = _
      simp only [broadV]
      rw [hs, hl]
      simp only [if_true]
      rw [broad_S1 (seqV 1 m) [] 0 0 (by omega)]
      unfold st2w
      rw [if_neg (by omega)]
      simp
  · have e1 : st3 n j = S1 0 (seqV 1 (j - 1)) [seqV j (n - j)] := by
      unfold st3
      rw [if_neg h0]
    rw [if_neg (fun e => h0 e.1), e1]
    refine ⟨?_, rfl⟩
    show broadV 0 0 (seqV j (n - j)) _ _ = _
    rw [broad_S1 _ _ 0 (-1) (by omega)]
    unfold st2w
    rw [if_neg (by omega)]
    have e2 : seqV 1 (j - 1) ++ seqV j (n - j) = seqV 1 (n - 1) := by
      refine List.ext_getElem (by simp [seqV_len]; omega) fun i h1 h2 => ?_
      rw [List.getElem_append]
      split
      · simp [seqV]
      · rename_i h3
        simp [seqV_len] at h3
        simp [seqV, seqV_len]
        omega
    rw [e2]
    simp
theorem seqV_app (j n : Nat) (h : j ≤ n) : seqV 0 j ++ seqV j (n - j) = seqV 0 n := by
  refine List.ext_getElem (by simp [seqV_len]; omega) fun i h1 h2 => ?_
  rw [List.getElem_append]
  split
  · simp [seqV]
  · rename_i h3
    simp [seqV_len] at h3
    simp [seqV, seqV_len]
    omega
def st0 (t : Nat) : Lk := S1 (-1) [] [seqV 0 t]
def st0l (t : Nat) : Lk := S1 t [] [seqV 0 t]
theorem st0_ok (t : Nat) (h : t ≤ 50) : LkOk 200 (st0 t) := s1_ok (by omega) (by simp) (fun _ => rfl) (thr1 (seqV_thr (by omega))) (by simp [tot, seqV_len]; omega) (by omega) (by simp)
theorem st0l_ok (t : Nat) (h : t ≤ 50) : LkOk 200 (st0l t) := s1_ok (by omega) (by simp) (fun h => by omega) (thr1 (seqV_thr (by omega))) (by simp [tot, seqV_len]; omega) (by omega) (by simp)
theorem st0_lock (t : Nat) : lockV (st0 t) 0 (t : Int) = (st0l t, true) := rfl
theorem st0_wait (t : Nat) : waitV (st0l t) 0 0 (t : Int) = (st0 (t + 1), -1, 0) := by
  unfold st0l st0
  rw [wait_S1, if_pos rfl, ← seqV_snoc]
  simp [hd1]
end Plain
/-- A state, a row beside it, and what both have come of. -/
structure C2 (w wr : World) (base : Nat) (h : LkH) (s : Lk) (v : Value) (l : List Int) : Prop where
  r : RowX wr w.heap.size base h s v l
  b : Below w.heap.size w wr
  hb : w.heap.size ≤ base
section
variable {w wr w' : World} {base : Nat} {h : LkH} {s s' : Lk} {v v' : Value} {l : List Int}
theorem C2.turn (H : C2 w wr base h s v l) (hT : LkT wr w' w.heap.size { h with X := fun k => h.X k ∨ v.ownBlock = some k } s') : C2 w w' base h s' v l :=
  ⟨H.r.turn hT, hT.bel H.r.m H.b, H.hb⟩
theorem C2.later (H : C2 w wr base h s v l) (hb : Below wr.heap.size wr w') : C2 w w' base h s v l := ⟨H.r.later hb, H.b.trans (hb.mono H.b.size), H.hb⟩
theorem C2.grow (H : C2 w wr base h s v l) {o : Obj} {l' : List Int} (hown : OwnI w' base v' l') (hg : (wr.alloc o).grownBy w' v.ownBlock) (ha : v'.ownBlock = v.ownBlock ∨ v'.ownBlock = some (wr.alloc o).heap.size) : C2 w w' base h s v' l' :=
  ⟨H.r.grow hown hg ha, (H.b.alloc H.b.size o).grown hg (by have := H.b.size; simp; omega) (fun k hk => by have := (own_blk H.r.o hk).1; have := H.hb; omega), H.hb⟩
theorem C2.grow0 (H : C2 w wr base h s v l) {l' : List Int} (hown : OwnI w' base v' l') (hg : wr.grownBy w' v.ownBlock) (ha : v'.ownBlock = v.ownBlock ∨ v'.ownBlock = some wr.heap.size) : C2 w w' base h s v' l' :=
  ⟨H.r.grow0 hown hg ha, H.b.grown hg H.b.size (fun k hk => by have := (own_blk H.r.o hk).1; have := H.hb; omega), H.hb⟩
/-- A broadcast beside a row. -/
theorem C2.broad (H : C2 w wr base h s v l) {v2 : Value} {l2 : List Int} (R : RowX w' w.heap.size wr.heap.size { h with X := fun k => h.X k ∨ v.ownBlock = some k } s' v2 l2) (hf : Fr h.W wr w') : C2 w w' base h s' v l :=
  H.turn ⟨R.drop, hf⟩
end
end Go.Proofs.Ytikelkfinjcgaaa
