/-
  What Open, and the document, tell of any bytes.
-/
import Derived.Test.YtjhgegoipnjgmaaCrcOpen
namespace Go.Proofs.Ytjhgegoipnjgmaa
open Go.RowKit Plain

/-- Why bytes are no seal: 2, too few; 4, another sum; 0, they are. -/
def whyI (b : List Nat) : Int := if b.length < 4 then 2 else if b = sealL (b.take (b.length - 4)) then 0 else 4

theorem whyI_short {b : List Nat} (h : b.length < 4) : whyI b = 2 := if_pos h
theorem whyI_long {b : List Nat} {p : Nat} (h : b.length = p + 4) : whyI b = whyAt b p := by
  unfold whyI whyAt
  rw [if_neg (by omega), show b.length - 4 = p by omega]
theorem whyAt_sum {b : List Nat} {p : Nat} (h : b.length = p + 4) (hx : ∀ x ∈ b, x < 256) : (crcL (b.take p) = leV (b.drop p) ∧ whyAt b p = 0) ∨ (crcL (b.take p) ≠ leV (b.drop p) ∧ whyAt b p = 4) := by
  have := why_split b p h hx
  unfold whyL at this
  rw [if_neg (by omega), show b.length - 4 = p by omega] at this
  unfold whyAt
  by_cases e : crcL (b.take p) = leV (b.drop p)
  · rw [if_pos e] at this
    refine .inl ⟨e, ?_⟩
    by_cases h2 : b = sealL (b.take p)
    · rw [if_pos h2]
    · rw [if_neg h2] at this; omega
  · rw [if_neg e] at this
    refine .inr ⟨e, ?_⟩
    by_cases h2 : b = sealL (b.take p)
    · rw [if_pos h2] at this; omega
    · rw [if_neg h2]
theorem sealL_lt {xs : List Nat} (h : ∀ x ∈ xs, x < 256) : ∀ x ∈ sealL xs, x < 256 := by
  intro x hm
  rcases List.mem_append.1 hm with hm | hm
  · exact h x hm
  · exact fixedL_lt 4 _ x hm
theorem sealL_take {xs : List Nat} {n : Nat} (h : xs.length = n) : (sealL xs).take n = xs := by
  subst h; rw [sealL, List.take_left]
theorem whyI_seal (xs : List Nat) : whyI (sealL xs) = 0 := by
  rw [whyI_long (p := xs.length) (sealL_length xs), whyAt, sealL_take rfl, if_pos rfl]

theorem own_cap {w : World} {base : Nat} {e : TypeId} {A : Option Addr} {n c : Nat} {xs : List Value} (h : w.ownsRow base e 1 (.slice A n c) n xs) : n ≤ c := by
  rcases h.2 with ⟨e, h0⟩ | ⟨g, cap, cur, e, _, _, hnc, _⟩
  · omega
  · injection e with _ _ e
    omega
/-- What Open told of the bytes b: the reason; none, or the bytes ahead of the sum. -/
def OpenGot (b : List Nat) (A : Option Addr) (m c : Nat) (w w' : World) : Prop :=
  w'.ownsRow w.heap.size 5 1 (.slice A m c) m (BS (b.take m)) ∧ Below w.heap.size w w' ∧ ((whyI b = 0 ∧ b.length = m + 4) ∨ (whyI b ≠ 0 ∧ m = 0))

theorem open_all (w : World) (b : List Nat) (n : Nat) (hl : b.length = n) (hx : ∀ x ∈ b, x < 256) (BB : Nat) (A : Option Addr) (c : Nat) (hrd : Reads w BB 1 A n (BS b)) (hc : n ≤ c) (hB : BB ≤ w.heap.size) (hn : n ≤ 65536) :
    Calls Try.prog 19 #[.slice A n c] w fun e w' => ∃ A' m c', e = .returned (.tuple #[.slice A' m c', .int .i64 (whyI b)]) ∧ OpenGot b A' m c' w w' := by
  by_cases h4 : n < 4
  · refine (open_short w n A c h4).mono ?_
    rintro e w' ⟨rfl, rfl⟩
    have h2 := whyI_short (b := b) (by omega)
    exact ⟨none, 0, 0, by rw [h2], World.ownsRow_nil _ _ _ _, Below.refl _ _, .inr ⟨by rw [h2]; omega, rfl⟩⟩
  · obtain ⟨p, rfl⟩ : ∃ p, n = p + 4 := ⟨n - 4, by omega⟩
    have hw := whyI_long hl
    rcases whyAt_sum hl hx with ⟨e, h0⟩ | ⟨e, h0⟩
    · refine (open_yes w b p hl hx BB A c hrd hc hB (by omega) e).mono ?_
      rintro e w' ⟨A', c', rfl, ho, hb⟩
      have htl : (b.take p).length = p := List.length_take_of_le (by omega)
      rw [htl] at ho
      exact ⟨A', p, c', by rw [hw, h0], ho, hb, .inl ⟨by rw [hw, h0], hl⟩⟩
    · refine (open_sum w b p hl hx BB A c hrd hc hB (by omega) e).mono ?_
      rintro e w' ⟨rfl, hb⟩
      exact ⟨none, 0, 0, by rw [hw, h0], World.ownsRow_nil _ _ _ _, hb, .inr ⟨by rw [hw, h0]; omega, rfl⟩⟩

theorem why_all (w : World) (b : List Nat) (n : Nat) (hl : b.length = n) (hx : ∀ x ∈ b, x < 256) (BB : Nat) (A : Option Addr) (c : Nat) (hrd : Reads w BB 1 A n (BS b)) (hc : n ≤ c) (hB : BB ≤ w.heap.size) (hn : n ≤ 65536) :
    Calls Try.prog 20 #[.slice A n c] w fun e w' => e = .returned (.int .i64 (whyI b)) ∧ Below w.heap.size w w' := by
  by_cases h4 : n < 4
  · refine (why_short w n A c h4).mono ?_
    rintro e w' ⟨rfl, rfl⟩
    exact ⟨by rw [whyI_short (b := b) (by omega)], Below.refl _ _⟩
  · obtain ⟨p, rfl⟩ : ∃ p, n = p + 4 := ⟨n - 4, by omega⟩
    refine (why_long w b p hl hx BB A c hrd hc hB (by omega)).mono ?_
    rintro e w' ⟨rfl, hb⟩
    exact ⟨by rw [whyI_long hl], hb⟩
end Go.Proofs.Ytjhgegoipnjgmaa
