
/-
  CrQ, CrH in one text.
-/
import Derived.Test.YtmjbfobjndiecaaCrP
import Derived.Test.YtmjbfobjndiecaaCsM
set_option linter.unusedVariables false
set_option linter.unusedSimpArgs false
namespace Go.Proofs.Ytmjbfobjndiecaa
section
open Go.RowKit Plain

theorem rsGo_shortL2 : ∀ (n i v : Nat) (rest : List Nat), (shortL n).length + i ≤ 9 → (i = 0 ∨ 0 < n) → rsGo i v (shortL n ++ rest) = (v + n * 128 ^ i, i + (shortL n).length, 0) := by
  intro n
  induction n using Nat.strongRecOn with
  | ind n ih =>
    intro i v rest hl h0
    by_cases h : n < 128
    · rw [shortL_small h]
      simp only [List.cons_append, List.nil_append]
      rw [rsGo, if_pos ⟨h, by omega⟩, Nat.mod_eq_of_lt h]
      rfl
    · have hp := shortL_pos (n / 128)
      rw [shortL_big (by omega)] at hl ⊢
      simp only [List.length_cons] at hl
      rw [List.cons_append, rsGo, if_neg (by omega), if_neg (by omega), ih (n / 128) (by omega) (i + 1) _ rest (by omega) (by omega)]
      simp only [List.length_cons, Nat.pow_succ]
      refine Prod.ext ?_ (Prod.ext (by simp only; omega) rfl)
      simp only
      rw [show (128 + n % 128) % 128 = n % 128 by omega, Nat.add_assoc, Nat.mul_comm (128 ^ i) 128, ← Nat.mul_assoc, ← Nat.add_mul]
      rw [show n % 128 + n / 128 * 128 = n by omega]
theorem rs_shortL2 (n : Nat) (rest : List Nat) (h : n ≤ 9223372036854775807) : rs (shortL n ++ rest) = (n, (shortL n).length, 0) := by
  have := rsGo_shortL2 n 0 0 rest (by have := shortL_nine h; omega) (.inl rfl)
  simpa [rs] using this
theorem unzig_zig2 (a : Int) : unzig (zig a) = a := by
  unfold unzig zig
  split <;> split <;> omega

/-! ### What is written is read -/

/-- One reading finds what was written. -/
def Fnd (f : List Nat → Int × Nat × Nat) (b : List Nat) (x : Int) : Prop := ∀ rest, f (b ++ rest) = (x, b.length, 0)
def Back {α : Type} (rdr : List Nat → Sx → α × Sx) (enc : α → List Nat) (x : α) : Prop :=
  ∀ pre rest : List Nat, rdr (pre ++ (enc x ++ rest)) (pre.length, 0) = (x, ((pre ++ enc x).length, 0))
theorem stP_fnd {f : List Nat → Int × Nat × Nat} {b : List Nat} {x : Int} (h : Fnd f b x) (pre rest : List Nat) : stP f (pre ++ (b ++ rest)) (pre.length, 0) = (x, ((pre ++ b).length, 0)) := by
  unfold stP
  simp only [List.drop_left]
  rw [h rest]
  simp [orZ, stepR]
theorem fnd_sh (n : Int) (h : 0 ≤ n) (h' : n ≤ 9223372036854775807) : Fnd sh (shortL n.toNat) n := fun rest => by
  unfold sh
  rw [rs_shortL2 _ _ (by omega)]
  simp only
  rw [Int.toNat_of_nonneg h]
theorem fnd_fx (n : Int) (h : 0 ≤ n) (h' : n ≤ 255) : Fnd fx (fixedL n.toNat 1) n := fun rest => by
  have hl : (fixedL n.toNat 1).length = 1 := fixedL_length _ _
  have hv := leV_fixedL 1 n.toNat
  unfold fx
  rw [if_neg (by rw [List.length_append, hl]; omega), List.take_left' hl, hv, hl]
  have : n.toNat % 256 ^ 1 = n.toNat := by omega
  rw [this, Int.toNat_of_nonneg h]
theorem fnd_sg (a : Int) (h : -1073741824 ≤ a) (h' : a ≤ 1073741824) : Fnd sg (shortL (zig (min (max a (-2305843009213693952)) 2305843009213693951))) a := fun rest => by
  have e : min (max a (-2305843009213693952)) 2305843009213693951 = a := by omega
  rw [e]
  have hz : zig a ≤ 4611686018427387903 := by unfold zig; split <;> omega
  unfold sg
  rw [rs_shortL2 _ _ (by omega)]
  simp only [ne_eq, not_true_eq_false, if_false]
  rw [if_pos hz, unzig_zig2]
theorem back_instr (i : IV) (h1 : 0 ≤ i.op) (h2 : i.op ≤ 255) (h3 : -1073741824 ≤ i.a) (h4 : i.a ≤ 1073741824) : Back instrP instrL i := fun pre rest => by
  have a1 := stP_fnd (fnd_fx i.op h1 h2) pre (shortL (zig (min (max i.a (-2305843009213693952)) 2305843009213693951)) ++ rest)
  have a2 := stP_fnd (fnd_sg i.a h3 h4) (pre ++ fixedL i.op.toNat 1) rest
  simp only [List.append_assoc] at a1 a2
  unfold instrP instrL
  simp only [List.append_assoc]
  rw [a1]
  simp only
  rw [a2]
theorem flat_at {α : Type} {enc : α → List Nat} {l : List α} {k : Nat} {x : α} (h : l[k]? = some x) : l.flatMap enc = (l.take k).flatMap enc ++ (enc x ++ (l.drop (k + 1)).flatMap enc) := by
  obtain ⟨hk, rfl⟩ := List.getElem?_eq_some_iff.1 h
  conv => lhs; rw [← List.take_append_drop k l, List.drop_eq_getElem_cons hk]
  simp only [List.flatMap_append, List.flatMap_cons]
theorem iter_back {α : Type} {rdr : List Nat → Sx → α × Sx} {enc : α → List Nat} (pre : List Nat) (l : List α) (rest : List Nat) (h : ∀ x ∈ l, Back rdr enc x) : ∀ k, k ≤ l.length →
    iterP (rdr (pre ++ (l.flatMap enc ++ rest))) k (pre.length, 0) = (l.take k, ((pre ++ (l.take k).flatMap enc).length, 0)) := by
  intro k
  induction k with
  | zero => intro _; simp [iterP]
  | succ k ih =>
    intro hk
    have hx : l[k]? = some l[k] := List.getElem?_eq_getElem (by omega)
    have h2 := h l[k] (List.getElem_mem _) (pre ++ (l.take k).flatMap enc) ((l.drop (k + 1)).flatMap enc ++ rest)
    have e : pre ++ (l.flatMap enc ++ rest) = pre ++ (l.take k).flatMap enc ++ (enc l[k] ++ ((l.drop (k + 1)).flatMap enc ++ rest)) := by
      rw [flat_at hx]; simp only [List.append_assoc]
    rw [iterP, ih (by omega)]
    simp only
    rw [e, h2, flatMap_take hx, List.take_add_one, hx]
    simp only [Option.toList_some, List.append_assoc]
theorem flat_ge {α : Type} (l : List α) (enc : α → List Nat) (h : ∀ x, 1 ≤ (enc x).length) : l.length ≤ (l.flatMap enc).length := by
  induction l with
  | nil => simp
  | cons x r ih => have := h x; simp only [List.flatMap_cons, List.length_append, List.length_cons]; omega
theorem list_back {α : Type} {rdr : List Nat → Sx → α × Sx} {enc : α → List Nat} (henc : ∀ x, 1 ≤ (enc x).length) (m : Nat) (l : List α) (hm : l.length ≤ m) (hm' : m ≤ 1000) (h : ∀ x ∈ l, Back rdr enc x) :
    Back (fun bs => listP (rdr bs) m bs) (fun l => shortL l.length ++ l.flatMap enc) l := fun pre rest => by
  have hs : stP (ls m) (pre ++ (shortL l.length ++ (l.flatMap enc ++ rest))) (pre.length, 0) = ((l.length : Int), ((pre ++ shortL l.length).length, 0)) := by
    have hg := flat_ge l enc henc
    unfold stP
    simp only [List.drop_left]
    have : ls m (shortL l.length ++ (l.flatMap enc ++ rest)) = ((l.length : Int), (shortL l.length).length, 0) := by
      unfold ls
      rw [rs_shortL2 _ _ (by omega)]
      simp only [ne_eq, not_true_eq_false, if_false]
      rw [if_neg (by omega), if_neg (by simp only [List.length_append]; omega)]
    rw [this]
    simp [orZ, stepR]
  have hi := iter_back (rdr := rdr) (enc := enc) (pre ++ shortL l.length) l rest h l.length (Nat.le_refl _)
  rw [List.take_length] at hi
  simp only [List.append_assoc] at hi
  simp only [List.append_assoc, listP]
  rw [hs]
  simp only [Int.toNat_natCast]
  rw [hi]
theorem shortL_one (n : Nat) : 1 ≤ (shortL n).length := shortL_pos n
theorem instrL_one (i : IV) : 1 ≤ (instrL i).length := by unfold instrL; rw [List.length_append, fixedL_length]; omega
theorem listL_one (l : List Int) : 1 ≤ (listL l).length := by have := shortL_pos l.length; unfold listL; simp; omega
theorem funcL_one (f : FV) : 1 ≤ (funcL f).length := by have := shortL_pos f.locals.toNat; unfold funcL; simp; omega
theorem back_ints (l : List Int) (hl : l.length ≤ 8) (h : ∀ x ∈ l, 0 ≤ x ∧ x ≤ 9223372036854775807) : Back intsP listL l :=
  list_back (rdr := fun bs => stP sh bs) (enc := fun x => shortL x.toNat) (fun x => shortL_pos _) 8 l hl (by omega) (fun x hx pre rest => stP_fnd (fnd_sh x (h x hx).1 (h x hx).2) pre rest)
theorem back_func (f : FV) (h0 : 0 ≤ f.locals) (h1 : f.locals ≤ 8) (hl : f.code.length ≤ 64) (h : ∀ i ∈ f.code, Back instrP instrL i) : Back funcP funcL f := fun pre rest => by
  have a1 := stP_fnd (fnd_sh f.locals h0 (by omega)) pre (codeL f.code ++ rest)
  have a2 := list_back instrL_one 64 f.code hl (by omega) h (pre ++ shortL f.locals.toNat) rest
  simp only [List.append_assoc] at a1 a2
  unfold funcP funcL
  unfold codeL at a1 ⊢
  simp only [List.append_assoc] at a1 ⊢
  rw [a1]
  simp only
  rw [a2]
theorem instr_bounds (p : PV) (f : FV) (i : IV) (hp : ∀ op, most p f op ≤ 1073741825) (h : instrB p f i = true) : 0 ≤ i.op ∧ i.op ≤ 26 ∧ -1073741824 ≤ i.a ∧ i.a ≤ 1073741824 := by
  unfold instrB at h
  simp only [Bool.and_eq_true, decide_eq_true_eq] at h
  obtain ⟨⟨h1, h2⟩, h3⟩ := h
  refine ⟨h1, h2, ?_⟩
  have hm := hp i.op
  split at h3
  · split at h3
    · simp only [decide_eq_true_eq] at h3; omega
    · simp only [Bool.and_eq_true, decide_eq_true_eq] at h3; omega
  · simp only [beq_iff_eq] at h3; omega
theorem all_bounds {l : List Int} {m : Int} (h : allB l m = true) (hm : m ≤ 1000) : ∀ x ∈ l, 0 ≤ x ∧ x ≤ 9223372036854775807 := fun x hx => by
  simp only [allB, List.all_eq_true, Bool.and_eq_true, decide_eq_true_eq] at h
  have := h x hx
  omega
set_option maxHeartbeats 1000000 in
theorem back_prog (p : PV) (hm : mayB p = true) : progP (progL p) = p ∧ (pt (progL p)).2 = ((progL p).length, 0) := by
  simp only [mayB, Bool.and_eq_true] at hm
  obtain ⟨⟨⟨hh, ⟨hc, hs⟩, hch⟩, hx⟩, hf⟩ := hm
  simp only [headB, Bool.and_eq_true, decide_eq_true_eq] at hh
  obtain ⟨⟨⟨⟨⟨⟨⟨⟨⟨a0, a1⟩, a2⟩, a3⟩, a4⟩, a5⟩, a6⟩, a7⟩, a8⟩, a9⟩ := hh
  have hbf : ∀ f ∈ p.funcs, Back funcP funcL f := fun f hff => by
    have h1 := List.all_eq_true.1 hf f hff
    simp only [funcB, Bool.and_eq_true, decide_eq_true_eq, List.all_eq_true] at h1
    obtain ⟨⟨⟨b0, b1⟩, b2⟩, b3⟩ := h1
    have hmo : ∀ op, most p f op ≤ 1073741825 := fun op => by
      unfold most
      repeat' split
      all_goals omega
    refine back_func f b0 b1 b2 (fun i hi => ?_)
    have := instr_bounds p f i hmo (b3 i hi)
    exact back_instr i this.1 (by omega) this.2.2.1 this.2.2.2
  have hbx : ∀ l ∈ p.choices, Back intsP listL l := fun l hl => by
    have h1 := List.all_eq_true.1 hx l hl
    simp only [choiceB, Bool.and_eq_true, decide_eq_true_eq] at h1
    exact back_ints l h1.2 (all_bounds h1.1.1.1 (by omega))
  have e3 : ∀ R, listP (funcP (funcsL p.funcs ++ R)) 16 (funcsL p.funcs ++ R) (0, 0) = (p.funcs, ((funcsL p.funcs).length, 0)) := fun R => list_back funcL_one 16 p.funcs a1 (by omega) hbf [] R
  replace e3 := e3 (shortL p.mutexes.toNat ++ (listL p.conds ++ (listL p.semas ++ (listL p.chans ++ (listsL p.choices ++ shortL p.threads.toNat)))))
  have e4 := stP_fnd (fnd_sh p.mutexes a2 (by omega)) (funcsL p.funcs) (listL p.conds ++ (listL p.semas ++ (listL p.chans ++ (listsL p.choices ++ shortL p.threads.toNat))))
  have e5 := back_ints p.conds a4 (all_bounds hc (by omega)) (funcsL p.funcs ++ shortL p.mutexes.toNat) (listL p.semas ++ (listL p.chans ++ (listsL p.choices ++ shortL p.threads.toNat)))
  have e6 := back_ints p.semas a5 (all_bounds hs (by omega)) (funcsL p.funcs ++ (shortL p.mutexes.toNat ++ listL p.conds)) (listL p.chans ++ (listsL p.choices ++ shortL p.threads.toNat))
  have e7 := back_ints p.chans a6 (all_bounds hch (by omega)) (funcsL p.funcs ++ (shortL p.mutexes.toNat ++ (listL p.conds ++ listL p.semas))) (listsL p.choices ++ shortL p.threads.toNat)
  have e8 : ∀ Q R, listP (intsP (Q ++ (listsL p.choices ++ R))) 8 (Q ++ (listsL p.choices ++ R)) (Q.length, 0) = (p.choices, ((Q ++ listsL p.choices).length, 0)) := fun Q R => list_back listL_one 8 p.choices a7 (by omega) hbx Q R
  replace e8 := e8 (funcsL p.funcs ++ (shortL p.mutexes.toNat ++ (listL p.conds ++ (listL p.semas ++ listL p.chans)))) (shortL p.threads.toNat)
  have e9 := stP_fnd (fnd_sh p.threads (by omega) (by omega)) (funcsL p.funcs ++ (shortL p.mutexes.toNat ++ (listL p.conds ++ (listL p.semas ++ (listL p.chans ++ listsL p.choices))))) []
  have hB : progL p = funcsL p.funcs ++ (shortL p.mutexes.toNat ++ (listL p.conds ++ (listL p.semas ++ (listL p.chans ++ (listsL p.choices ++ shortL p.threads.toNat))))) := by
    unfold progL; simp only [List.append_assoc]
  obtain ⟨b, hb⟩ : ∃ b, b = progL p := ⟨_, rfl⟩
  rw [← hb] at hB ⊢
  simp only [List.append_assoc, List.append_nil, ← hB] at e3 e4 e5 e6 e7 e8 e9
  have f3 : pf b = (p.funcs, ((funcsL p.funcs).length, 0)) := e3
  have f4 : pm b = (p.mutexes, ((funcsL p.funcs ++ shortL p.mutexes.toNat).length, 0)) := by unfold pm; rw [f3]; exact e4
  have f5 : pc b = (p.conds, ((funcsL p.funcs ++ (shortL p.mutexes.toNat ++ listL p.conds)).length, 0)) := by unfold pc; rw [f4]; exact e5
  have f6 : ps b = (p.semas, ((funcsL p.funcs ++ (shortL p.mutexes.toNat ++ (listL p.conds ++ listL p.semas))).length, 0)) := by unfold ps; rw [f5]; exact e6
  have f7 : ph b = (p.chans, ((funcsL p.funcs ++ (shortL p.mutexes.toNat ++ (listL p.conds ++ (listL p.semas ++ listL p.chans)))).length, 0)) := by unfold ph; rw [f6]; exact e7
  have f8 : px b = (p.choices, ((funcsL p.funcs ++ (shortL p.mutexes.toNat ++ (listL p.conds ++ (listL p.semas ++ (listL p.chans ++ listsL p.choices))))).length, 0)) := by unfold px; rw [f7]; exact e8
  have f9 : pt b = (p.threads, ((funcsL p.funcs ++ (shortL p.mutexes.toNat ++ (listL p.conds ++ (listL p.semas ++ (listL p.chans ++ (listsL p.choices ++ shortL p.threads.toNat)))))).length, 0)) := by unfold pt; rw [f8, ← hB]; exact e9
  refine ⟨?_, ?_⟩
  · unfold progP; rw [f3, f4, f5, f6, f7, f8, f9]
  · rw [f9, ← hB]
theorem flat_lt {α : Type} {l : List α} {enc : α → List Nat} (h : ∀ x, ∀ y ∈ enc x, y < 256) : ∀ y ∈ l.flatMap enc, y < 256 := fun y hy => by
  obtain ⟨x, _, hm⟩ := List.mem_flatMap.1 hy
  exact h x y hm
theorem app_lt {a b : List Nat} (ha : ∀ y ∈ a, y < 256) (hb : ∀ y ∈ b, y < 256) : ∀ y ∈ a ++ b, y < 256 := fun y hy => by
  rcases List.mem_append.1 hy with h | h
  · exact ha y h
  · exact hb y h
theorem listL_lt (l : List Int) : ∀ y ∈ listL l, y < 256 := app_lt (shortL_lt _) (flat_lt fun _ => shortL_lt _)
theorem funcL_lt (f : FV) : ∀ y ∈ funcL f, y < 256 := app_lt (shortL_lt _) (app_lt (shortL_lt _) (flat_lt fun _ => app_lt (fixedL_lt 1 _) (shortL_lt _)))
theorem progL_lt (p : PV) : ∀ y ∈ progL p, y < 256 :=
  app_lt (app_lt (app_lt (app_lt (app_lt (app_lt (app_lt (shortL_lt _) (flat_lt funcL_lt)) (shortL_lt _)) (listL_lt _)) (listL_lt _)) (listL_lt _)) (app_lt (shortL_lt _) (flat_lt listL_lt))) (shortL_lt _)
theorem progL_len {p : PV} (h : Puts p) : (progL p).length ≤ 140737488355328 := by
  have h1 := funcsL_len p.funcs h.funcs.1 h.funcs.2
  have h2 := listsL_len p.choices h.choices.1 h.choices.2
  have h3 := listL_len p.conds h.conds.1 h.conds.2
  have h4 := listL_len p.semas h.semas.1 h.semas.2
  have h5 := listL_len p.chans h.chans.1 h.chans.2
  have h6 := shortI_len h.mutexes
  have h7 := shortI_len h.threads
  simp only [progL, List.length_append]
  omega
theorem puts_lens {p : PV} (h : Puts p) : Lens p := by
  have s := puts_short3 h
  exact ⟨by have := s.funcs; omega, fun f hf => by have := s.code f hf; omega, by have := s.conds; omega, by have := s.semas; omega, by have := s.chans; omega, by have := s.choices; omega, fun l hl => by have := s.each l hl; omega⟩
theorem read_back (p : PV) (hm : mayB p = true) : readE (progL p) = 0 ∧ readP (progL p) = p := by
  obtain ⟨h1, h2⟩ := back_prog p hm
  have he : readE (progL p) = 0 := by unfold readE; rw [h2, h1]; simp [hm]
  exact ⟨he, by unfold readP; rw [if_pos he, h1]⟩
end

section
open Go.RowKit Plain

/-- A reading without an error begins without one, and took just what is written of what it tells. -/
def Fwd {α : Type} (bs : List Nat) (rd : Sx → α × Sx) (enc : α → List Nat) : Prop :=
  ∀ s : Sx, s.1 ≤ bs.length → (rd s).2.2 = 0 → s.2 = 0 ∧ bs.take (rd s).2.1 = bs.take s.1 ++ enc (rd s).1
theorem take_more (bs : List Nat) (a k : Nat) : bs.take (a + k) = bs.take a ++ (bs.drop a).take k := by
  rw [List.take_add]
theorem stP_fwd {f : List Nat → Int × Nat × Nat} {bs : List Nat} {enc : Int → List Nat} (h : ∀ xs : List Nat, (∀ x ∈ xs, x < 256) → (f xs).2.2 = 0 → xs.take (f xs).2.1 = enc (f xs).1) (hx : ∀ x ∈ bs, x < 256) : Fwd bs (stP f bs) enc := fun s hs he => by
  obtain ⟨a, e⟩ := s
  unfold stP at he ⊢
  simp only [stepR, orZ] at he ⊢
  by_cases h0 : e = 0
  · subst h0
    simp only [if_true] at he ⊢
    by_cases h1 : (f (bs.drop a)).2.2 = 0
    · rw [if_pos h1]
      refine ⟨trivial, ?_⟩
      simp only
      rw [take_more, h _ (drop_lt hx a) h1]
    · rw [if_neg h1] at he
      simp only at he
      omega
  · rw [if_neg h0] at he
    simp only at he
    exact absurd he h0
theorem fwd_sh {bs : List Nat} (hx : ∀ x ∈ bs, x < 256) : Fwd bs (stP sh bs) (fun x => shortL x.toNat) := stP_fwd (fun xs hx h => by
  have := rs_ok hx h
  simp only [sh]
  rw [← this.2.2.1]
  simp) hx
theorem fwd_fx {bs : List Nat} (hx : ∀ x ∈ bs, x < 256) : Fwd bs (stP fx bs) (fun x => fixedL x.toNat 1) := stP_fwd (fun xs hx h => by
  unfold fx at h ⊢
  split at h
  · simp at h
  · rename_i hl
    rw [if_neg hl]
    simp only
    cases xs with
    | nil => simp at hl
    | cons x r =>
      have := hx x (by simp)
      simp only [List.take_succ_cons, List.take_zero, leV, fixedL]
      simp only [Nat.mul_zero, Nat.add_zero, Int.toNat_natCast]
      rw [Nat.mod_eq_of_lt this]) hx
theorem fwd_sg {bs : List Nat} (hx : ∀ x ∈ bs, x < 256) : Fwd bs (stP sg bs) (fun x => shortL (zig (min (max x (-2305843009213693952)) 2305843009213693951))) := stP_fwd (fun xs hx h => by
  unfold sg at h ⊢
  split at h
  · rename_i h1; simp at h; exact absurd h h1
  · rename_i h1
    split at h
    · rename_i h2
      rw [if_neg h1, if_pos h2]
      simp only
      have := rs_ok hx (by simpa using h1)
      rw [← this.2.2.1]
      congr 1
      unfold unzig zig
      split <;> split <;> omega
    · simp at h) hx
theorem fwd_ls {bs : List Nat} (m : Nat) (hx : ∀ x ∈ bs, x < 256) : Fwd bs (stP (ls m) bs) (fun x => shortL x.toNat) := stP_fwd (fun xs hx h => by
  unfold ls at h ⊢
  split at h
  · rename_i h1; simp at h; exact absurd h h1
  · rename_i h1
    split at h
    · simp at h
    · rename_i h2
      split at h
      · simp at h
      · rename_i h3
        rw [if_neg h1, if_neg h2, if_neg h3]
        simp only
        have := rs_ok hx (by simpa using h1)
        rw [← this.2.2.1]
        simp) hx
theorem iter_fwd {α : Type} {bs : List Nat} {rd : Sx → α × Sx} {enc : α → List Nat} (h : Fwd bs rd enc) (hst : Stays bs rd) : ∀ k (s : Sx), s.1 ≤ bs.length → (iterP rd k s).2.2 = 0 → s.2 = 0 ∧ bs.take (iterP rd k s).2.1 = bs.take s.1 ++ (iterP rd k s).1.flatMap enc
  | 0, s, hs, he => ⟨he, by simp [iterP]⟩
  | k + 1, s, hs, he => by
    obtain ⟨h1, h2⟩ := h _ (hst.iter k s hs) he
    obtain ⟨h3, h4⟩ := iter_fwd h hst k s hs h1
    refine ⟨h3, ?_⟩
    simp only [iterP, List.flatMap_append, List.flatMap_cons, List.flatMap_nil, List.append_nil]
    rw [h2, h4, List.append_assoc]
theorem list_fwd {α : Type} {bs : List Nat} {rd : Sx → α × Sx} {enc : α → List Nat} (h : Fwd bs rd enc) (hst : Stays bs rd) (hx : ∀ x ∈ bs, x < 256) (m : Nat) : Fwd bs (listP rd m bs) (fun l => shortL l.length ++ l.flatMap enc) := fun s hs he => by
  have hle := stP_le (goes_ls m) hx hs
  obtain ⟨n, hn, _, _⟩ := ls_nat m bs s
  unfold listP at he ⊢
  obtain ⟨h1, h2⟩ := iter_fwd h hst _ _ hle he
  obtain ⟨h3, h4⟩ := fwd_ls m hx s hs h1
  refine ⟨h3, ?_⟩
  rw [h2, h4]
  simp only [iterP_length, List.append_assoc]
theorem instr_fwd {bs : List Nat} (hx : ∀ x ∈ bs, x < 256) : Fwd bs (instrP bs) instrL := fun s hs he => by
  unfold instrP at he ⊢
  obtain ⟨h1, h2⟩ := fwd_sg hx _ (stP_le goes_fx hx hs) he
  obtain ⟨h3, h4⟩ := fwd_fx hx s hs h1
  refine ⟨h3, ?_⟩
  simp only [instrL]
  rw [h2, h4, List.append_assoc]
theorem ints_fwd {bs : List Nat} (hx : ∀ x ∈ bs, x < 256) : Fwd bs (intsP bs) listL := list_fwd (fwd_sh hx) (Stays.st goes_sh hx) hx 8
theorem func_fwd {bs : List Nat} (hx : ∀ x ∈ bs, x < 256) : Fwd bs (funcP bs) funcL := fun s hs he => by
  unfold funcP at he ⊢
  obtain ⟨h1, h2⟩ := list_fwd (instr_fwd hx) (stays_instr hx) hx 64 _ (stP_le goes_sh hx hs) he
  obtain ⟨h3, h4⟩ := fwd_sh hx s hs h1
  refine ⟨h3, ?_⟩
  simp only [funcL, codeL]
  rw [h2, h4, List.append_assoc]
theorem read_write (bs : List Nat) (hx : ∀ x ∈ bs, x < 256) (he : readE bs = 0) : mayB (readP bs) = true ∧ progL (readP bs) = bs := by
  have hp : readP bs = progP bs := by unfold readP; rw [if_pos he]
  rw [hp]
  unfold readE at he
  split at he
  · rename_i h; exact absurd he h
  rename_i h0
  split at he
  · omega
  rename_i h1
  by_cases h2 : mayB (progP bs) = true
  rotate_left
  · rw [if_neg h2] at he; omega
  refine ⟨h2, ?_⟩
  have h0' : (pt bs).2.2 = 0 := by simpa using h0
  have l3 : (pf bs).2.1 ≤ bs.length := (stays_func hx).list hx 16 (0, 0) (Nat.zero_le _)
  have l4 : (pm bs).2.1 ≤ bs.length := stP_le goes_sh hx l3
  have l5 : (pc bs).2.1 ≤ bs.length := stays_ints hx _ l4
  have l6 : (ps bs).2.1 ≤ bs.length := stays_ints hx _ l5
  have l7 : (ph bs).2.1 ≤ bs.length := stays_ints hx _ l6
  have l8 : (px bs).2.1 ≤ bs.length := (stays_ints hx).list hx 8 _ l7
  have l9 : (pt bs).2.1 ≤ bs.length := stP_le goes_sh hx l8
  obtain ⟨a8, b9⟩ := fwd_sh hx (px bs).2 l8 h0'
  obtain ⟨a7, b8⟩ := list_fwd (ints_fwd hx) (stays_ints hx) hx 8 (ph bs).2 l7 a8
  obtain ⟨a6, b7⟩ := ints_fwd hx (ps bs).2 l6 a7
  obtain ⟨a5, b6⟩ := ints_fwd hx (pc bs).2 l5 a6
  obtain ⟨a4, b5⟩ := ints_fwd hx (pm bs).2 l4 a5
  obtain ⟨a3, b4⟩ := fwd_sh hx (pf bs).2 l3 a4
  obtain ⟨_, b3⟩ := list_fwd (func_fwd hx) (stays_func hx) hx 16 (0, 0) (Nat.zero_le _) a3
  have e9 : bs.take (pt bs).2.1 = bs := List.take_of_length_le (by omega)
  have c3 : bs.take (pf bs).2.1 = funcsL (pf bs).1 := by have h := b3; rw [List.take_zero, List.nil_append] at h; exact h
  have c4 : bs.take (pm bs).2.1 = funcsL (pf bs).1 ++ shortL (pm bs).1.toNat := by rw [← c3]; exact b4
  have c5 : bs.take (pc bs).2.1 = funcsL (pf bs).1 ++ shortL (pm bs).1.toNat ++ listL (pc bs).1 := by rw [← c4]; exact b5
  have c6 : bs.take (ps bs).2.1 = funcsL (pf bs).1 ++ shortL (pm bs).1.toNat ++ listL (pc bs).1 ++ listL (ps bs).1 := by rw [← c5]; exact b6
  have c7 : bs.take (ph bs).2.1 = funcsL (pf bs).1 ++ shortL (pm bs).1.toNat ++ listL (pc bs).1 ++ listL (ps bs).1 ++ listL (ph bs).1 := by rw [← c6]; exact b7
  have c8 : bs.take (px bs).2.1 = funcsL (pf bs).1 ++ shortL (pm bs).1.toNat ++ listL (pc bs).1 ++ listL (ps bs).1 ++ listL (ph bs).1 ++ listsL (px bs).1 := by rw [← c7]; exact b8
  have c9 : bs.take (pt bs).2.1 = progL (progP bs) := by
    show _ = funcsL (pf bs).1 ++ shortL (pm bs).1.toNat ++ listL (pc bs).1 ++ listL (ps bs).1 ++ listL (ph bs).1 ++ listsL (px bs).1 ++ shortL (pt bs).1.toNat
    rw [← c8]; exact b9
  rw [← c9, e9]
theorem no_may : mayB noP = false := by decide
end
end Go.Proofs.Ytmjbfobjndiecaa
