
/-
  slices.Clone, slices.DeleteFunc of rows of numbers: those that are one thread.
-/
import Derived.Test.YtbgigkamlnchcaaChA
set_option linter.unusedVariables false
set_option linter.unusedSimpArgs false
namespace Go.Proofs.Ytbgigkamlnchcaa
open Go.RowKit Plain

section
variable {P : Program} {w : World} {ops : Array Oper} {rest : List Oper} {o : Oper} {a : Act} {Q : Exit → Act → World → Prop}
/-- 'clear(s)' of the last of a row that is known whole. -/
theorem wpList_clear_last (hgd : o.guard = none) (d : Operand) (dT : TypeId) (ho : o.op = .call { callee := .builtin .clear, args := #[d], argTypes := #[dT] })
    (e : TypeId) (z : Value) (hu : P.underlying dT = some (.slice e)) (hv : ∀ w, (zeroValue e).run P w = .ok z w) (hz : z.cells = #[z]) (h1 : z.oneCell' = true)
    (g off n c : Nat) (t : TypeId) (cs : List Value) (h0 : 0 < n) (hd : a.eval d = .slice (some ⟨g, off, none⟩) n c) (hb : Blk w g t cs.toArray) (hn : off + n ≤ cs.length)
    (h : ∀ (w' : World) (cs' : List Value), Blk w' g t cs'.toArray → cs'.length = cs.length → cs'.take off = cs.take off → Fr (fun i => i = g) w w' → wpList P ops Q rest (a.put o.dst (.tuple #[])) w') : wpList P ops Q (o :: rest) a w := by
  refine wpList_plain hgd fun K hK => ?_
  have hrun := Go.Lib.run_clear_slice (P := P) w dT e o.type z hu hv hz h1 g off n c h0 (fun j hj => by rw [hb.cell]; simp; omega) (fun j _ => hb.frozen _)
  unfold Oper.wp
  simp [execOp, ho, resolve, invoke, builtin, hd, hrun, Result.andThen]
  refine hK _ _ (h _ (cs.take off ++ List.replicate n z ++ cs.drop (off + n)) ?_ ?_ ?_ (setCells_fr g _ off w))
  · have := setCells_blk g t (List.replicate n z) cs off w hb (by simpa using hn)
    simpa using this
  · simp
    omega
  · rw [List.append_assoc, List.take_append_of_le_length (by simp; omega), List.take_take, Nat.min_self]
end

section
variable {w : World}
set_option maxHeartbeats 1000000 in
theorem del_any (w : World) (x t : Int) (bt : Nat) (hb : Blk w bt 3 #[.int .i64 t]) :
    Calls Try.prog 41 #[.int .i64 x, .pointer (some ⟨bt, 0, none⟩)] w fun e w' => e = .returned (.bool (x == t)) ∧ w' = w := by
  have h0 : w.cell? ⟨bt, 0, none⟩ = some (.int .i64 t) := (hb.cell 0).trans rfl
  clear hb
  go_enter Try.func41, Try.ntmps41
  go_wp2_with fail
  go_ret
  exact ⟨rfl, rfl⟩
theorem first_at {l : List Int} {t : Int} (h : t ∈ l) : ∃ k, k < l.length ∧ l[k]? = some t ∧ t ∉ l.take k := by
  induction l with
  | nil => simp at h
  | cons x r ih =>
    by_cases hx : x = t
    · subst hx
      exact ⟨0, by simp, by simp, by simp⟩
    · obtain ⟨k, h1, h2, h3⟩ := ih (by
        rcases List.mem_cons.1 h with e | e
        · exact absurd e.symm hx
        · exact e)
      refine ⟨k + 1, by simpa using h1, by simpa using h2, ?_⟩
      rw [List.take_succ_cons]
      simp
      exact ⟨fun e => hx e.symm, h3⟩
set_option maxHeartbeats 1000000 in
theorem indexFunc_hit (w : World) (D : Nat → Prop) (A : Option Addr) (c n bt k : Nat) (t : Int) (l : List Int) (hr : RN w D A c l) (hn : l.length = n) (hK : n ≤ 1000000) (hb : Blk w bt 3 #[.int .i64 t]) (hk : k < n) (hkt : l[k]? = some t) (hnt : t ∉ l.take k) :
    Calls Try.prog 49 #[.slice A n c, .func (.func 41) #[] #[.pointer (some ⟨bt, 0, none⟩)]] w fun e w' => e = .returned (.int .i64 (k : Int)) ∧ w' = w := by
  have hd := fun x => del_any w x t bt hb
  have HR := Lib.hid hr; have HN := Lib.hid hn; have HB := Lib.hid hb; have HKT := Lib.hid hkt; have HNT := Lib.hid hnt; have HD := Lib.hid hd
  clear hr hn hb hkt hnt hd
  go_enter Try.func49, Try.ntmps49
  go_wp2_with fail
  go_loopw [8] (fun s8 wr => ∃ i : Nat, i ≤ k ∧ s8 = .int .i64 (i : Int) ∧ wr = w) (fun s8 _ => n - (intOf s8).toNat)
  case atStart => exact ⟨0, by omega, rfl, rfl⟩
  case round =>
    obtain ⟨i, hi, rfl, rfl⟩ := hrel
    obtain ⟨ad, rfl, _, _, hcx⟩ := HR.out.at_ (show i < l.length by rw [HN.out]; omega)
    have hx := gn_some (l := l) (m := i) (by rw [HN.out]; omega)
    generalize gn l i = x at hcx hx
    have q1 : (i : Int) < (n : Int) := by omega
    by_cases he : x = t
    · have hik : i = k := by
        rcases Nat.lt_or_ge i k with h | h
        · have := HNT.out
          exact absurd (List.mem_iff_getElem?.2 ⟨i, by rw [List.getElem?_take_of_lt h, hx, he]⟩) this
        · omega
      have HE := Lib.hid he; have HIK := Lib.hid hik; have HX := Lib.hid hx
      have hxb : (x == t) = true := by simpa using he
      clear he hik hx
      go_wp2_with fail
      refine (HD.out x).mono ?_
      rintro e w1 ⟨rfl, rfl⟩
      go_wp2_with fail
      go_ret
      exact ⟨by rw [HIK.out]; rfl, rfl⟩
    · have hik : i ≠ k := by
        rintro rfl
        rw [HKT.out] at hx
        exact he (Option.some.inj hx).symm
      have hxb : (x == t) = false := by simpa using he
      clear he hx
      go_wp2_with fail
      refine (HD.out x).mono ?_
      rintro e w1 ⟨rfl, rfl⟩
      go_wp2_with fail
      exact ⟨⟨i + 1, by omega, by go_num, by trivial⟩, by simp [intOf]; omega⟩
/-- The row under way: its first i are those of l's first j that are not t. -/
structure DelI (w wr : World) (b c i j : Nat) (t : Int) (l : List Int) (cs cs' : List Value) : Prop where
  blk : Blk wr b 3 cs'.toArray
  len : cs'.length = c
  fst : cs'.take i = (wo t (l.take j)).map EnI
  num : (wo t (l.take j)).length = i
  rst : ∀ k, j ≤ k → cs'[k]? = cs[k]?
  fr : Fr (fun k => k = b) w wr
theorem wo_take_succ {t x : Int} {l : List Int} {j : Nat} (h : l[j]? = some x) : wo t (l.take (j + 1)) = if x = t then wo t (l.take j) else wo t (l.take j) ++ [x] := by
  rw [List.take_add_one, h]
  unfold wo
  rw [List.filter_append]
  by_cases hx : x = t
  · simp [hx]
  · simp [hx]
theorem DelI.skip {w wr : World} {b c i j : Nat} {t : Int} {l : List Int} {cs cs' : List Value} (h : DelI w wr b c i j t l cs cs') (hx : l[j]? = some t) : DelI w wr b c i (j + 1) t l cs cs' := by
  have e := wo_take_succ (t := t) hx
  rw [if_pos rfl] at e
  exact ⟨h.blk, h.len, by rw [e]; exact h.fst, by rw [e]; exact h.num, fun k hk => h.rst k (by omega), h.fr⟩
theorem DelI.keep {w wr : World} {b c i j : Nat} {t x : Int} {l : List Int} {cs cs' : List Value} (h : DelI w wr b c i j t l cs cs') (hx : l[j]? = some x) (hne : x ≠ t) (hij : i < j) (hjc : j < c) : DelI w (wr.setCell ⟨b, i, none⟩ (EnI x)) b c (i + 1) (j + 1) t l cs (cs'.set i (EnI x)) := by
  have e := wo_take_succ (t := t) hx
  rw [if_neg hne] at e
  have hb := h.blk.set_ i (EnI x)
  rw [List.setIfInBounds_toArray] at hb
  have hil : i < cs'.length := by have := h.len; omega
  refine ⟨hb, by simpa using h.len, ?_, by rw [e, List.length_append, h.num]; rfl, fun k hk => ?_, h.fr.setCell (p := ⟨b, i, none⟩) (.inl rfl) _⟩
  · rw [e, List.map_append, List.take_add_one, List.getElem?_set_self hil, List.take_set_of_le (Nat.le_refl _), h.fst]
    rfl
  · rw [List.getElem?_set_ne (by omega)]
    exact h.rst k (by omega)
set_option maxRecDepth 100000 in
set_option maxHeartbeats 2000000 in
theorem delFunc_any (w : World) (b bt n c : Nat) (t : Int) (l : List Int) (cs : List Value) (hb : Blk w b 3 cs.toArray) (hcl : cs.length = c) (hct : cs.take n = l.map EnI) (hl : l.length = n) (hnc : n ≤ c) (hK : n ≤ 1000000) (hbt : Blk w bt 3 #[.int .i64 t]) (hne : bt ≠ b) (hmem : t ∈ l) :
    Calls Try.prog 39 #[.slice (some ⟨b, 0, none⟩) n c, .func (.func 41) #[] #[.pointer (some ⟨bt, 0, none⟩)]] w fun e w' =>
      ∃ k A' c', e = .returned (.slice A' k c') ∧ (wo t l).length = k ∧ RN w' (fun i => i = b) A' c' (wo t l) ∧ Fr (fun i => i = b) w w' := by
  obtain ⟨k0, hk0, hkt, hnt⟩ := first_at hmem
  rw [hl] at hk0
  have hat : ∀ j, j < n → cs[j]? = (l.map EnI)[j]? := fun j hj => by
    rw [← hct, List.getElem?_take_of_lt hj]
  have hrn : RN w (fun _ => True) (some ⟨b, 0, none⟩) c l := by
    refine ⟨by omega, fun _ => ⟨_, rfl, trivial, hb.lt, fun j x hj => ?_⟩⟩
    have hjn : j < n := by rw [← hl]; exact (List.getElem?_eq_some_iff.1 hj).1
    rw [Addr.add_lit, hb.cell]
    have := hat j hjn
    rw [List.getElem?_map, hj] at this
    simpa using this
  have hin := indexFunc_hit w _ _ c n bt k0 t l hrn hl hK hbt hk0 hkt hnt
  have hI0 : DelI w w b c k0 (k0 + 1) t l cs cs := by
    have e := wo_take_succ (t := t) hkt
    rw [if_pos rfl, wo_not hnt] at e
    refine ⟨hb, hcl, ?_, by rw [e]; simp; omega, fun _ _ => rfl, Fr.refl _ _⟩
    rw [e, List.map_take, ← hct, List.take_take, Nat.min_eq_left (by omega)]
  have hlj : ∀ j, j < n → ∃ x, l[j]? = some x := fun j hj => ⟨l[j], List.getElem?_eq_getElem (by omega)⟩
  have hfin : ∀ i wr cs', DelI w wr b c i n t l cs cs' → ∀ (w2 : World) (cs2 : List Value), Blk w2 b 3 cs2.toArray → cs2.length = cs'.length → cs2.take i = cs'.take i → Fr (fun k => k = b) wr w2 →
      (wo t l).length = i ∧ RN w2 (fun k => k = b) (some ⟨b, 0, none⟩) c (wo t l) ∧ Fr (fun k => k = b) w w2 := by
    intro i wr cs' hI w2 cs2 h1 h2 h3 h4
    have e : l.take n = l := List.take_of_length_le (by omega)
    have e1 := hI.num
    have e2 := hI.fst
    rw [e] at e1 e2
    refine ⟨e1, ⟨by have := wo_len t l; omega, fun _ => ⟨_, rfl, rfl, h1.lt, fun j x hj => ?_⟩⟩, hI.fr.trans h4 (fun _ _ h => h)⟩
    have hji : j < i := by rw [← e1]; exact (List.getElem?_eq_some_iff.1 hj).1
    rw [Addr.add_lit, h1.cell]
    have : (cs2.take i)[j]? = some (EnI x) := by rw [h3, e2, List.getElem?_map, hj]; rfl
    rw [List.getElem?_take_of_lt hji] at this
    simpa using this
  have hdl : ∀ wr, Fr (fun k => k = b) w wr → ∀ x, Calls Try.prog 41 #[.int .i64 x, .pointer (some ⟨bt, 0, none⟩)] wr fun e w' => e = .returned (.bool (x == t)) ∧ w' = wr := fun wr hf x => del_any wr x t bt (hf.blk hbt hne)
  have hcell : ∀ j, j < n → ∀ x, l[j]? = some x → cs[j]? = some (EnI x) := fun j hj x hx => by rw [hat j hj, List.getElem?_map, hx]; rfl
  have HIN := Lib.hid hin; have HI0 := Lib.hid hI0; have HLJ := Lib.hid hlj; have HF := Lib.hid hfin; have HD := Lib.hid hdl; have HC := Lib.hid hcell; have HL := Lib.hid hl; have HCL := Lib.hid hcl
  have HZ := fun w => (by kernel_rfl : (zeroValue 3).run Try.prog w = .ok (.int .i64 0) w)
  clear hb hcl hct hl hbt hmem hat hrn hin hI0 hlj hfin hdl hcell hkt hnt
  have q0 : ((k0 : Int) == -1) = false := by rw [beq_eq_false_iff_ne]; omega
  go_enter Try.func39, Try.ntmps39
  go_wp2_with fail
  refine HIN.out.mono ?_
  rintro e w1 ⟨rfl, rfl⟩
  go_wp2_with fail
  go_loopw [5, 6] (fun s5 s6 wr => ∃ i j : Nat, i < j ∧ j ≤ n ∧ s5 = .int .i64 (i : Int) ∧ s6 = .int .i64 (j : Int) ∧ Hid (∃ cs', DelI w1 wr b c i j t l cs cs')) (fun _ s6 _ => n - (intOf s6).toNat)
  case atStart => exact ⟨k0, k0 + 1, by omega, by omega, rfl, by go_num, Lib.hid ⟨_, HI0.out⟩⟩
  case round =>
    obtain ⟨i, j, hij, hj, rfl, rfl, HI⟩ := hrel
    by_cases hlt : j < n
    · obtain ⟨cs', hI⟩ := HI.out
      obtain ⟨x, hx⟩ := HLJ.out j hlt
      have hcx : wr.cell? ⟨b, j, none⟩ = some (.int .i64 x) := by
        rw [hI.blk.cell]
        have := (hI.rst j (Nat.le_refl _)).trans (HC.out j hlt x hx)
        simpa using this
      have hci : (wr.cell? ⟨b, i, none⟩).isSome = true := by
        rw [hI.blk.cell]
        have := hI.len
        simp
        omega
      have hfi : wr.frozen? ⟨b, i, none⟩ = false := hI.blk.frozen i
      have hcal := HD.out wr hI.fr x
      have q1 : (j : Int) < (n : Int) := by omega
      have q2 : (0 : Int) ≤ (j : Int) := by omega
      have q3 : (i : Int) < (n : Int) := by omega
      have q4 : (0 : Int) ≤ (i : Int) := by omega
      by_cases he : x = t
      · have hn := hI.skip (he ▸ hx)
        have hxb : (x == t) = true := by simpa using he
        have HNX := Lib.hid hn; have HCAL := Lib.hid hcal
        clear hn hcal he hI hx hci
        go_wp2_with fail
        refine HCAL.out.mono ?_
        rintro e w2 ⟨rfl, rfl⟩
        go_wp2_with fail
        exact ⟨⟨i, j + 1, by omega, by omega, rfl, by go_num, Lib.hid ⟨_, HNX.out⟩⟩, by simp [intOf]; omega⟩
      · have hn := hI.keep hx he hij (by omega)
        have hxb : (x == t) = false := by simpa using he
        obtain ⟨y, hcy⟩ := Option.isSome_iff_exists.1 hci
        have HNX := Lib.hid hn; have HCAL := Lib.hid hcal
        clear hn hcal he hI hx hci
        go_wp2_with fail
        refine HCAL.out.mono ?_
        rintro e w2 ⟨rfl, rfl⟩
        go_wp2_with fail
        exact ⟨⟨i + 1, j + 1, by omega, by omega, by go_num, by go_num, Lib.hid ⟨_, HNX.out⟩⟩, by simp [intOf]; omega⟩
    · obtain rfl : j = n := by omega
      obtain ⟨cs', hI⟩ := HI.out
      have hpc : ¬ c = i := by omega
      have q3 : (i : Int) ≤ (j : Int) := by omega
      have q5 : (i : Int) ≤ (c : Int) := by omega
      have q4 : (0 : Int) ≤ (i : Int) := by omega
      have hblk := hI.blk
      have hlen := hI.len
      have hf := HF.out i wr cs' hI
      have HBLK := Lib.hid hblk; have HFF := Lib.hid hf; have HLEN := Lib.hid hlen
      clear hblk hf hI hlen HI HF HI0 HC HLJ HD
      go_wp2_with (with_reducible refine wpList_clear_last rfl (.tmp 38) _ rfl 3 (.int .i64 0) Try.underlying25 HZ rfl rfl b i (j - i) (c - i) 3 cs' (by omega) rfl HBLK.out (by rw [HLEN.out]; omega) ?c1)
      case c1 =>
      intro w2 cs2 h1 h2 h3 h4
      have hend := HFF.out w2 cs2 h1 h2 h3 h4
      have HE := Lib.hid hend
      clear h1 h2 h3 h4 hend HFF HBLK
      go_wp2_with fail
      go_ret
      exact ⟨_, _, _, rfl, HE.out.1, HE.out.2.1, HE.out.2.2⟩
end
end Go.Proofs.Ytbgigkamlnchcaa
