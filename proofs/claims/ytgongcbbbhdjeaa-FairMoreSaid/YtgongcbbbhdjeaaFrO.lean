
/-
  Rounds, plain: all workers, rising, over and over, from any of them on: they are fair within as many as there are workers, and cut into as many pieces as there are rounds; picks without one worker. No function of the landed code is spoken of here.
-/
import Derived.Test.YtgongcbbbhdjeaaFrN
set_option linter.unusedVariables false
namespace Go.Proofs.Ytgongcbbbhdjeaa
namespace Plain
theorem mod_ne {M x d : Nat} (h0 : 0 < d) (h1 : d < M) : (x + d) % M ≠ x % M := by
  have hr : x % M < M := Nat.mod_lt _ (by omega)
  have hx := Nat.div_add_mod x M
  generalize hq : x / M = q at hx
  generalize x % M = r at hr hx
  rw [← hx]
  rcases Nat.lt_or_ge (r + d) M with h | h
  · rw [show M * q + r + d = r + d + M * q by omega, Nat.add_mul_mod_self_left, Nat.mod_eq_of_lt h]
    omega
  · rw [show M * q + r + d = (r + d - M) + M * (q + 1) by rw [Nat.mul_add]; omega, Nat.add_mul_mod_self_left, Nat.mod_eq_of_lt (by omega)]
    omega
theorem mod_hit {M x w : Nat} (hw : w < M) : ∃ d, d < M ∧ (x + d) % M = w := by
  have hr : x % M < M := Nat.mod_lt _ (by omega)
  have hx := Nat.div_add_mod x M
  generalize hq : x / M = q at hx
  generalize x % M = r at hr hx
  rcases Nat.lt_or_ge w r with h | h
  · refine ⟨w + M - r, by omega, ?_⟩
    rw [← hx, show M * q + r + (w + M - r) = w + M * (q + 1) by rw [Nat.mul_add]; omega, Nat.add_mul_mod_self_left, Nat.mod_eq_of_lt hw]
  · refine ⟨w - r, by omega, ?_⟩
    rw [← hx, show M * q + r + (w - r) = w + M * q by omega, Nat.add_mul_mod_self_left, Nat.mod_eq_of_lt hw]
/-- K rounds of M workers, from c on. -/
structure Rounds (M K c : Nat) (t : List Int) : Prop where
  len : t.length = M * K
  at_ : ∀ i, i < M * K → t[i]? = some (((i + c) % M : Nat) : Int)
section
variable {M K c : Nat} {t : List Int}
theorem Rounds.window (h : Rounds M K c t) {i : Nat} (hi : i + M ≤ t.length) (hM : 1 ≤ M) : allL (cutL t i M) M = true := by
  rw [allL_cut]
  intro w hw hm
  obtain ⟨d, h1, h2⟩ := mod_hit (x := i + c) hw
  refine hm (i + d) (by omega) (by omega) ?_
  rw [h.at_ _ (by have := h.len; omega), show i + d + c = i + c + d by omega, h2]
theorem Rounds.fair (h : Rounds M K c t) (hM : 1 ≤ M) : fairI t M (M : Int) = true := by
  rw [fairI_doc t M _ hM, if_neg (by omega), Int.toNat_natCast]
  unfold fairV
  rw [List.all_eq_true]
  intro i hi
  have := List.mem_range.1 hi
  exact h.window (by omega) hM
theorem Rounds.part (h : Rounds M K c t) (hM : 1 ≤ M) {s b : Nat} (hb : b < M) (hs : s + b ≤ t.length) : allL (cutL t s b) M = false := by
  rw [Bool.eq_false_iff]
  intro ha
  refine allL_cut.1 ha ((s + b + c) % M) (Nat.mod_lt _ (by omega)) fun j h1 h2 e => ?_
  rw [h.at_ j (by have := h.len; omega)] at e
  injection e with e
  have := mod_ne (M := M) (x := j + c) (d := s + b - j) (by omega) (by omega)
  rw [show j + c + (s + b - j) = s + b + c by omega] at this
  omega
theorem Rounds.gs (h : Rounds M K c t) (hM : 1 ≤ M) : ∀ a, a ≤ K → gsV t M (M * a) = (M * a, a) := by
  intro a
  induction a with
  | zero => intro _; simp [gsV]
  | succ a ih =>
    intro ha
    have h0 := ih (by omega)
    have hlen := h.len
    have hle : M * a + M ≤ M * K := by
      have := Nat.mul_le_mul_left M ha
      rw [Nat.mul_add, Nat.mul_one] at this
      exact this
    have key : ∀ b, b < M → gsV t M (M * a + b) = (M * a, a) := by
      intro b
      induction b with
      | zero => intro _; exact h0
      | succ b ihb =>
        intro hb
        have hg := ihb (by omega)
        have hp := h.part hM (s := M * a) (b := b + 1) hb (by omega)
        rw [← Nat.add_assoc, gs_no (by rw [hg]; simp only; rw [show M * a + b + 1 - M * a = b + 1 by omega]; exact hp), hg]
    have hg := key (M - 1) (by omega)
    have hw := h.window (i := M * a) (by omega) hM
    rw [show M * (a + 1) = M * a + (M - 1) + 1 by rw [Nat.mul_add]; omega, gs_yes (by rw [hg]; simp only; rw [show M * a + (M - 1) + 1 - M * a = M by omega]; exact hw), hg]
theorem Rounds.full (h : Rounds M K c t) (hM : 1 ≤ M) : fullV t M = K := by
  unfold fullV
  rw [h.len, h.gs hM K (Nat.le_refl _)]
theorem Rounds.least (h : Rounds M K c t) (hM : 1 ≤ M) (hK : 1 ≤ K) : leastV t M = M := by
  have hlen := h.len
  have hMK : M ≤ M * K := Nat.le_mul_of_pos_right M (by omega)
  have hm : IsMost (MissAny t M) (M - 1) := by
    refine ⟨⟨(M - 1 + c) % M, Nat.mod_lt _ (by omega), 0, by omega, fun j h1 h2 e => ?_⟩, fun n ⟨w, hw, a, h1, h2⟩ => ?_⟩
    · rw [h.at_ j (by omega)] at e
      injection e with e
      have := mod_ne (M := M) (x := j + c) (d := M - 1 - j) (by omega) (by omega)
      rw [show j + c + (M - 1 - j) = M - 1 + c by omega] at this
      omega
    · false_or_by_contra
      rename_i hc
      have := allL_cut.1 (h.window (i := a) (by omega) hM) w hw
      exact this fun j h3 h4 => h2 j h3 (by omega)
  have := (longV_most t M hM).one hm
  unfold leastV
  omega
/-- Picks that lack a worker. -/
theorem lacks_least {l : List Int} {w : Nat} (hw : w < M) (hn : (w : Int) ∉ l) : leastV l M = l.length + 1 := by
  have hm : IsMost (MissAny l M) l.length := by
    refine ⟨⟨w, hw, 0, by omega, fun j _ _ e => hn (List.mem_of_getElem? e)⟩, fun n ⟨v, hv, a, h1, h2⟩ => by omega⟩
  have := (longV_most l M (by omega)).one hm
  unfold leastV
  omega
theorem lacks_full {l : List Int} {w : Nat} (hw : w < M) (hn : (w : Int) ∉ l) : fullV l M = 0 := by
  have key : ∀ k, gsV l M k = (0, 0) := by
    intro k
    induction k with
    | zero => rfl
    | succ k ih =>
      have : allL (cutL l (gsV l M k).1 (k + 1 - (gsV l M k).1)) M = false := by
        rw [Bool.eq_false_iff]
        intro ha
        have := allL_iff.1 ha w hw
        unfold cutL at this
        exact hn (List.mem_of_mem_drop (List.mem_of_mem_take this))
      rw [gs_no this]
      exact ih
  unfold fullV
  rw [key]
end
/-- K rounds of M workers. -/
def roundL (M K : Nat) : List Int := (List.range (M * K)).map fun (i : Nat) => ((i % M : Nat) : Int)
theorem roundL_length (M K : Nat) : (roundL M K).length = M * K := by simp [roundL]
theorem roundL_rounds (M K : Nat) : Rounds M K 0 (roundL M K) := ⟨roundL_length M K, fun i hi => by simp [roundL, hi]⟩
end Plain
end Go.Proofs.Ytgongcbbbhdjeaa
