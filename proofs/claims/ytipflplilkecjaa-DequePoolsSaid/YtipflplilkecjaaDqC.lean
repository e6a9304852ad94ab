
/-
  A deque's calls: Len, Room, List, Push, out, Pop, Steal, pull.
-/
import Derived.Test.YtipflplilkecjaaDqB
set_option linter.unusedVariables false
set_option linter.unusedSimpArgs false
namespace Go.Proofs.Ytipflplilkecjaa
open Go.RowKit Plain

section
variable {P : Program} {w : World} {ops : Array Oper} {rest : List Oper} {o : Oper} {a : Act} {Q : Exit → Act → World → Prop}
/-- append of one, where there is room. -/
theorem wpList_append_one (hgd : o.guard = none) (s x : Operand) (t : TypeId) (ho : o.op = Op.call { callee := Callee.builtin Builtin.append, args := #[s, x], argTypes := #[t, t] })
    (e : TypeId) (i : TypeInfo) (h1 : P.underlying t = some (.slice e)) (h2 : P.info? e = some i) (h4 : i.size = 1)
    (b off n cap : Nat) (hs : a.eval s = .slice (some ⟨b, off, none⟩) n cap) (ad : Addr) (c : Nat) (u : Value) (hx : a.eval x = .slice (some ad) 1 c) (hc : w.cell? ad = some u) (h1c : u.oneCell' = true)
    (hroom : n + 1 ≤ cap) (hsp : (w.cell? ⟨b, off + n, none⟩).isSome = true) (hsf : w.frozen? ⟨b, off + n, none⟩ = false)
    (h : wpList P ops Q rest (a.put o.dst (.slice (some ⟨b, off, none⟩) (n + 1) cap)) (w.setCell ⟨b, off + n, none⟩ u)) : wpList P ops Q (o :: rest) a w := by
  refine wpList_plain hgd fun K hK => ?_
  have hrun := run_append_room_cells (P := P) w t o.type e i h1 h2 b off n cap ad 1 c [u] (by simp [h4]) (by intro j v hj; match j, hj with | 0, hj => (simp at hj; subst hj; simpa [Addr.add] using hc)) (by intro v hv; simp at hv; subst hv; exact h1c) hroom
    (by intro j hj; simp at hj; subst hj; simpa [h4] using hsp) (by intro j hj; simp at hj; subst hj; simpa [h4] using hsf)
  simp [World.setCells, h4] at hrun
  unfold Oper.wp
  simp [execOp, ho, resolve, invoke, builtin, hs, hx, hrun, Result.andThen]
  exact hK _ _ h
end

theorem enI_inj : ∀ {l l' : List Int}, l.map EnI = l'.map EnI → l = l'
  | [], [], _ => rfl
  | [], _ :: _, h => by simp at h
  | _ :: _, [], h => by simp at h
  | a :: l, b :: l', h => by
    simp only [List.map_cons, List.cons.injEq] at h
    have h1 := h.1
    injection h1 with _ h1
    rw [h1, enI_inj h.2]
section
variable (d s room : Nat) (L : List (List Int)) (i : Nat) (l : List Int) (w : World)
set_option maxHeartbeats 1000000 in
theorem len_dq (h : Dqs w d s room L) (hi : L[i]? = some l) :
    Calls Try.prog 20 #[.pointer (some ⟨d, i * 2, none⟩)] w fun e w' => e = .returned (.int .i64 (l.length : Int)) ∧ w = w' := by
  obtain ⟨c0, c1, cz⟩ := h.cells hi
  clear h cz
  go_enter Try.func20, Try.ntmps20
  go_wp2_with fail
  go_ret
  exact ⟨rfl, rfl⟩

set_option maxHeartbeats 1000000 in
theorem room_dq (h : Dqs w d s room L) (hi : L[i]? = some l) :
    Calls Try.prog 21 #[.pointer (some ⟨d, i * 2, none⟩)] w fun e w' => e = .returned (.int .i64 ((room - l.length : Nat) : Int)) ∧ ∃ n, w' = w.drewN n := by
  obtain ⟨c0, c1, cz⟩ := h.cells hi
  have hl := h.len i l hi
  have hr := h.r8
  have hs : IntKind.i64.wrap ((room : Int) - (l.length : Int)) = ((room - l.length : Nat) : Int) := by rw [IntWalk.i64_in _ (by omega)]; omega
  clear h cz hi
  go_enter Try.func21, Try.ntmps21
  go_wp2_with fail
  go_quiet (fail)
  go_wp2_with fail
  go_ret
  exact ⟨rfl, _, rfl⟩

set_option maxHeartbeats 1000000 in
theorem list_dq (h : Dqs w d s room L) (hi : L[i]? = some l) :
    Calls Try.prog 19 #[.pointer (some ⟨d, i * 2, none⟩)] w fun e w' => ∃ v, e = .returned v ∧ OwnI w' w.heap.size v l ∧ Below w.heap.size w w' := by
  obtain ⟨c0, c1, cz⟩ := h.cells hi
  have hq := clone_any l l.length room _ _ w rfl (h.reads hi) (by have := h.len i l hi; have := h.r8; omega) (Nat.le_refl _)
  have HQ := Lib.hid hq
  clear h cz hi hq
  go_enter Try.func19, Try.ntmps19
  go_wp2_with fail
  refine HQ.out.mono ?_
  rintro e w' ⟨v, rfl, hown, hb⟩
  go_wp2_with fail
  go_ret
  exact ⟨_, rfl, hown, hb⟩

set_option maxHeartbeats 1000000 in
theorem push_dq_no (x : Int) (h : Dqs w d s room L) (hi : L[i]? = some l) (hl : room ≤ l.length) :
    Calls Try.prog 15 #[.pointer (some ⟨d, i * 2, none⟩), .int .i64 x] w fun e w' => e = .returned (.int .i64 6) ∧ ∃ n, w' = w.drewN n := by
  have hq := room_dq d s room L i l w h hi
  rw [show room - l.length = 0 by omega] at hq
  have HQ := Lib.hid hq
  clear h hi hq hl
  go_enter Try.func15, Try.ntmps15
  go_wp2_with fail
  refine HQ.out.mono ?_
  rintro e w' ⟨rfl, n, rfl⟩
  go_wp2_with fail
  go_ret
  exact ⟨rfl, n, rfl⟩

set_option maxHeartbeats 1000000 in
theorem push_dq_yes (x : Int) (h : Dqs w d s room L) (hi : L[i]? = some l) (hl : l.length < room) :
    Calls Try.prog 15 #[.pointer (some ⟨d, i * 2, none⟩), .int .i64 x] w fun e w' => e = .returned (.int .i64 0) ∧ Dqs w' d s room (L.set i (l ++ [x])) ∧ Fr (fun k => k = d ∨ k = s) w w' := by
  obtain ⟨i0, hi0, hz0, hz1, hz2⟩ := info_parts info_int
  have hq := room_dq d s room L i l w h hi
  have hr8 := h.r8
  have hr0 : (((room - l.length : Nat) : Int) == 0) = false := by simp; omega
  have HQ := Lib.hid hq; have H := Lib.hid h; have HI := Lib.hid hi
  clear h hi hq
  go_enter Try.func15, Try.ntmps15
  go_wp2_with fail
  refine HQ.out.mono ?_
  rintro e w' ⟨rfl, n, rfl⟩
  have hd := H.out.drewN n
  have hf := (Fr.refl (fun k => k = d ∨ k = s) w).drewN n
  generalize w.drewN n = W1 at *
  have HD := Lib.hid hd; have HF := Lib.hid hf
  clear H HQ hd hf
  obtain ⟨c0, c1, cz⟩ := HD.out.cells HI.out
  have z0 := cz (i * 2)
  clear cz
  have hsd : s < W1.heap.size := HD.out.lt.2
  have hdd : d < W1.heap.size := HD.out.lt.1
  obtain ⟨zs, b1, b2, b3⟩ := HD.out.row
  have hiL : i < L.length := (List.getElem?_eq_some_iff.1 HI.out).1
  have hlt := slot_lt hiL hl
  have csome : ((W1.alloc (.cells #[.int .i64 x] 3)).cell? ⟨s, i * room + l.length, none⟩).isSome = true := by
    rw [(b2.alloc _).cell]
    simp
    omega
  have cfz : (W1.alloc (.cells #[.int .i64 x] 3)).frozen? ⟨s, i * room + l.length, none⟩ = false := (b2.alloc _).frozen _
  have cx : (W1.alloc (.cells #[.int .i64 x] 3)).cell? ⟨W1.heap.size, 0, none⟩ = some (.int .i64 x) := ((Blk.new W1 _ _).cell 0).trans rfl
  clear b1 b2 b3 hlt hiL
  have hne : ¬ d = s := HD.out.ne
  have hne2 : ¬ s = d := fun e => HD.out.ne e.symm
  go_wp2_with (at_builtin; go_must (with_reducible refine wpList_append_one rfl (.tmp 12) (.tmp 14) _ rfl 3 i0 Try.underlying26 hi0 hz1 s (i * room) l.length room rfl ⟨W1.heap.size, 0, none⟩ 1 (.int .i64 x) rfl cx rfl (by omega) csome cfz ?_))
  go_ret
  have hnd : d ≠ (⟨s, i * room + l.length, none⟩ : Addr).block := HD.out.ne
  refine ⟨rfl, HD.out.put HI.out (by simp; omega) (fun cs hb => ?_) (fun zs hlen hb => ⟨zs.set (i * room + l.length) x, by simp, ?_, fun j hj => ?_, fun j y hy hz => ?_⟩), ?_⟩
  · have := ((hb.far hnd (.int .i64 x)).set_ (i * 2) (.slice (some ⟨s, i * room, none⟩) (l.length + 1) room)).alloc (.cells #[.int .i64 x] 3)
    simpa using this
  · have := ((hb.set_ (i * room + l.length) (.int .i64 x)).far (p := ⟨d, i * 2, none⟩) hne2 (.slice (some ⟨s, i * room, none⟩) (l.length + 1) room)).alloc (.cells #[.int .i64 x] 3)
    simpa [List.map_set] using this
  · exact List.getElem?_set_ne (by omega)
  · rcases Nat.lt_or_ge j l.length with hj | hj
    · rw [List.getElem?_append_left hj] at hy
      rw [List.getElem?_set_ne (by omega)]
      exact hz j y hy
    · rw [List.getElem?_append_right hj] at hy
      have hjl : j = l.length := by
        have := (List.getElem?_eq_some_iff.1 hy).1
        simp at this
        omega
      subst hjl
      simp at hy
      subst hy
      have hiL : i < L.length := (List.getElem?_eq_some_iff.1 HI.out).1
      have hlt := slot_lt hiL hl
      exact List.getElem?_set_self (by omega)
  · refine HF.out.trans ?_ (fun _ _ h => h)
    exact (((Fr.refl (fun k => k = d ∨ k = s) W1).setCell (p := ⟨s, i * room + l.length, none⟩) (.inl (.inr rfl)) _).setCell (p := ⟨d, i * 2, none⟩) (.inl (.inl rfl)) _).alloc _

set_option maxHeartbeats 1000000 in
theorem out_dq_no (k : Int) (h : Dqs w d s room L) (hi : L[i]? = some []) :
    Calls Try.prog 40 #[.pointer (some ⟨d, i * 2, none⟩), .int .i64 k] w fun e w' => e = .returned (.tuple #[.int .i64 0, .int .i64 7]) ∧ w = w' := by
  obtain ⟨c0, c1, cz⟩ := h.cells hi
  rw [List.length_nil] at c0
  clear h cz hi
  go_enter Try.func40, Try.ntmps40
  go_wp2_with fail
  go_ret2
  exact ⟨rfl, rfl⟩

set_option maxRecDepth 100000 in
set_option maxHeartbeats 2000000 in
theorem out_dq_yes (k : Nat) (x : Int) (h : Dqs w d s room L) (hi : L[i]? = some l) (hk : l[k]? = some x) :
    Calls Try.prog 40 #[.pointer (some ⟨d, i * 2, none⟩), .int .i64 (k : Int)] w fun e w' => e = .returned (.tuple #[.int .i64 x, .int .i64 0]) ∧ Dqs w' d s room (L.set i (l.eraseIdx k)) ∧ Fr (fun k => k = d ∨ k = s) w w' := by
  obtain ⟨c0, c1, cz⟩ := h.cells hi
  have z0 := cz (i * 2)
  obtain ⟨zs, b1, b2, b3⟩ := h.row
  have hkl := (List.getElem?_eq_some_iff.1 hk).1
  have hlr := h.len i l hi
  have hr8 := h.r8
  have hiL := (List.getElem?_eq_some_iff.1 hi).1
  have hup : i * room + room ≤ zs.length := by
    have : (i + 1) * room ≤ L.length * room := Nat.mul_le_mul_right _ hiL
    rw [Nat.add_mul] at this
    omega
  obtain ⟨p, hp⟩ : ∃ p, l.length = p + 1 := ⟨l.length - 1, by omega⟩
  have hdel := delete_any s (i * room) p room k zs w b2 hup (by omega) (by omega) (by omega)
  have hcx : w.cell? ⟨s, i * room + k, none⟩ = some (.int .i64 x) := by
    rw [b2.cell]
    have := b3 i l hi k x hk
    simp [this]
  rw [hp] at c0
  have hwr : IntKind.i64.wrap ((k : Int) + 1) = (k : Int) + 1 := IntWalk.i64_in _ (by omega)
  have hk0 : (0 : Int) ≤ (k : Int) := by omega
  have hk1 : (k : Int) < (p : Int) + 1 := by omega
  have hdd := h.lt.1
  have hne : d ≠ s := h.ne
  have H := Lib.hid h; have HI := Lib.hid hi; have HD := Lib.hid hdel; have HZ := Lib.hid b1; have HP := Lib.hid hp; have HB := Lib.hid b2; have HK := Lib.hid hk; have HC0 := Lib.hid c0; have HZ0 := Lib.hid z0; have HUP := Lib.hid hup
  have hpn : ¬ (p : Int) + 1 = 0 := by omega
  clear h hi hdel b1 b2 b3 cz hk hp hkl hlr z0 hup
  go_enter Try.func40, Try.ntmps40
  go_wp2_with fail
  refine HD.out.mono ?_
  rintro e w1 ⟨rfl, hf, hb⟩
  have c2 := (hf.cell (p := ⟨d, i * 2, none⟩) hdd hne).trans HC0.out
  obtain ⟨cs, a1, a2, a3⟩ := H.out.box
  have z2 : w1.frozen? ⟨d, i * 2, none⟩ = false := (hf.blk a2 hne).frozen _
  have HF := Lib.hid hf; have HB1 := Lib.hid hb
  clear hf hb c0 a1 a2 a3 hcx
  go_wp2_with fail
  go_ret2
  have hle : (l.eraseIdx k).length = p := by rw [List.length_eraseIdx, if_pos (by have := HP.out; omega), HP.out]; rfl
  refine ⟨rfl, H.out.put HI.out (by rw [hle]; have := H.out.len i l HI.out; have := HP.out; omega) (fun cs hb => ?_) (fun zs' hlen hb => ?_), ?_⟩
  · rw [hle]
    simpa using (HF.out.blk hb hne).set_ (i * 2) (.slice (some ⟨s, i * room, none⟩) p room)
  · have hzz : zs' = zs := by
      have := hb
      have h2 := HB.out
      unfold Blk at this h2
      rw [this] at h2
      injection h2 with h2
      injection h2 with h2
      have h3 := congrArg Array.toList h2
      simp at h3
      exact enI_inj h3
    subst hzz
    have hup := HUP.out
    have hpl := HP.out
    have hlr := H.out.len i l HI.out
    have hkl := (List.getElem?_eq_some_iff.1 HK.out).1
    refine ⟨_, ?_, HB1.out.far (p := ⟨d, i * 2, none⟩) (Ne.symm hne) _, fun j hj => ?_, fun j y hy hz => ?_⟩
    · rw [List.length_set, shiftL_length _ _ _ (by omega)]
    · rw [List.getElem?_set_ne (by omega), shiftL_at _ _ _ _ (by omega), if_neg (by omega)]
    · have hjp : j < p := by
        have := (List.getElem?_eq_some_iff.1 hy).1
        omega
      rw [List.getElem?_set_ne (by omega), shiftL_at _ _ _ _ (by omega)]
      rw [eraseIdx_at] at hy
      by_cases hjk : j < k
      · rw [if_pos hjk] at hy
        rw [if_neg (by omega)]
        exact hz j y hy
      · rw [if_neg hjk] at hy
        rw [if_pos (by omega)]
        exact hz (j + 1) y hy
  · exact (HF.out.mono (S := fun k => k = d ∨ k = s) (fun _ _ h => .inr h)).setCell (p := ⟨d, i * 2, none⟩) (.inl (.inl rfl)) _

set_option maxHeartbeats 1000000 in
theorem pop_dq_no (h : Dqs w d s room L) (hi : L[i]? = some []) :
    Calls Try.prog 16 #[.pointer (some ⟨d, i * 2, none⟩)] w fun e w' => e = .returned (.tuple #[.int .i64 0, .int .i64 7]) ∧ w = w' := by
  obtain ⟨c0, c1, cz⟩ := h.cells hi
  rw [List.length_nil] at c0
  have hq := out_dq_no d s room L i w (-1) h hi
  have HQ := Lib.hid hq
  clear h cz hi hq
  go_enter Try.func16, Try.ntmps16
  go_wp2_with fail
  refine HQ.out.mono ?_
  rintro e w' ⟨rfl, rfl⟩
  go_wp2_with fail
  go_ret2
  exact ⟨rfl, rfl⟩

set_option maxHeartbeats 1000000 in
theorem pop_dq_yes (x : Int) (h : Dqs w d s room L) (hi : L[i]? = some (l ++ [x])) :
    Calls Try.prog 16 #[.pointer (some ⟨d, i * 2, none⟩)] w fun e w' => e = .returned (.tuple #[.int .i64 x, .int .i64 0]) ∧ Dqs w' d s room (L.set i l) ∧ Fr (fun k => k = d ∨ k = s) w w' := by
  obtain ⟨c0, c1, cz⟩ := h.cells hi
  rw [List.length_append, List.length_singleton] at c0
  have hq := out_dq_yes d s room L i (l ++ [x]) w l.length x h hi (by simp)
  rw [show (l ++ [x]).eraseIdx l.length = l by rw [List.eraseIdx_append_of_length_le (Nat.le_refl _)]; simp] at hq
  have hlr := h.len i _ hi
  have hr8 := h.r8
  simp at hlr
  have hwr : IntKind.i64.wrap (((l.length + 1 : Nat) : Int) - 1) = (l.length : Int) := by rw [IntWalk.i64_in _ (by omega)]; omega
  have HQ := Lib.hid hq
  clear h cz hi hq
  go_enter Try.func16, Try.ntmps16
  go_wp2_with fail
  refine HQ.out.mono ?_
  rintro e w' ⟨rfl, hd, hf⟩
  go_wp2_with fail
  go_ret2
  exact ⟨rfl, hd, hf⟩

set_option maxHeartbeats 1000000 in
theorem steal_dq_no (h : Dqs w d s room L) (hi : L[i]? = some []) :
    Calls Try.prog 17 #[.pointer (some ⟨d, i * 2, none⟩)] w fun e w' => e = .returned (.tuple #[.int .i64 0, .int .i64 7]) ∧ w = w' := by
  have hq := out_dq_no d s room L i w 0 h hi
  have HQ := Lib.hid hq
  clear h hi hq
  go_enter Try.func17, Try.ntmps17
  go_wp2_with fail
  refine HQ.out.mono ?_
  rintro e w' ⟨rfl, rfl⟩
  go_wp2_with fail
  go_ret2
  exact ⟨rfl, rfl⟩

set_option maxHeartbeats 1000000 in
theorem steal_dq_yes (x : Int) (h : Dqs w d s room L) (hi : L[i]? = some (x :: l)) :
    Calls Try.prog 17 #[.pointer (some ⟨d, i * 2, none⟩)] w fun e w' => e = .returned (.tuple #[.int .i64 x, .int .i64 0]) ∧ Dqs w' d s room (L.set i l) ∧ Fr (fun k => k = d ∨ k = s) w w' := by
  have hq := out_dq_yes d s room L i (x :: l) w 0 x h hi (by simp)
  rw [show (x :: l).eraseIdx 0 = l from rfl] at hq
  have HQ := Lib.hid hq
  clear h hi hq
  go_enter Try.func17, Try.ntmps17
  go_wp2_with fail
  refine HQ.out.mono ?_
  rintro e w' ⟨rfl, hd, hf⟩
  go_wp2_with fail
  go_ret2
  exact ⟨rfl, hd, hf⟩

set_option maxHeartbeats 1000000 in
theorem pull_dq_no (x : Int) (h : Dqs w d s room L) (hi : L[i]? = some l) (hne : ∀ j : Nat, l[j]? ≠ some x) :
    Calls Try.prog 52 #[.pointer (some ⟨d, i * 2, none⟩), .int .i64 x] w fun e w' => e = .returned (.bool false) ∧ w = w' := by
  obtain ⟨c0, c1, cz⟩ := h.cells hi
  have hq := index_miss l l.length room _ _ x w (h.reads hi) hne (by have := h.len i l hi; have := h.r8; omega)
  have HQ := Lib.hid hq
  clear h cz hi hq hne
  go_enter Try.func52, Try.ntmps52
  go_wp2_with fail
  refine HQ.out.mono ?_
  rintro e w' ⟨rfl, rfl⟩
  go_wp2_with fail
  go_ret
  exact ⟨rfl, rfl⟩

set_option maxHeartbeats 1000000 in
theorem pull_dq_yes (x : Int) (k : Nat) (h : Dqs w d s room L) (hi : L[i]? = some l) (hk : l[k]? = some x) (hne : ∀ j : Nat, j < k → l[j]? ≠ some x) :
    Calls Try.prog 52 #[.pointer (some ⟨d, i * 2, none⟩), .int .i64 x] w fun e w' => e = .returned (.bool true) ∧ Dqs w' d s room (L.set i (l.eraseIdx k)) ∧ Fr (fun k => k = d ∨ k = s) w w' := by
  obtain ⟨c0, c1, cz⟩ := h.cells hi
  have hq := index_hit l l.length room _ k _ x w (h.reads hi) hk hne (by have := h.len i l hi; have := h.r8; omega)
  have ho := out_dq_yes d s room L i l w k x h hi hk
  have HQ := Lib.hid hq; have HO := Lib.hid ho
  have hk0 : ¬ (k : Int) < 0 := by omega
  clear h cz hi hq hne ho hk
  go_enter Try.func52, Try.ntmps52
  go_wp2_with fail
  refine HQ.out.mono ?_
  rintro e w' ⟨rfl, rfl⟩
  go_wp2_with fail
  refine HO.out.mono ?_
  rintro e w' ⟨rfl, hd, hf⟩
  go_wp2_with fail
  go_ret
  exact ⟨rfl, hd, hf⟩
end
end Go.Proofs.Ytipflplilkecjaa
