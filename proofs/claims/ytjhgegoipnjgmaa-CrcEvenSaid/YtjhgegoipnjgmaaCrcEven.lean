/-
  The exclusive or of three texts, and of their sums. Nothing of the landed code is spoken of here.
-/
import Derived.Test.YtjhgegoipnjgmaaCrcPure
namespace Go.Proofs.Ytjhgegoipnjgmaa.Plain
set_option linter.unusedVariables false

def xor3 : List Nat → List Nat → List Nat → List Nat
  | x :: a, y :: b, z :: c => (x ^^^ y ^^^ z) :: xor3 a b c
  | _, _, _ => []
theorem xor3_snoc : ∀ (a b c : List Nat) (x y z : Nat), a.length = b.length → a.length = c.length → xor3 (a ++ [x]) (b ++ [y]) (c ++ [z]) = xor3 a b c ++ [x ^^^ y ^^^ z]
  | [], [], [], x, y, z, _, _ => rfl
  | p :: a, q :: b, s :: c, x, y, z, h1, h2 => by
    simp only [List.cons_append, xor3]
    rw [xor3_snoc a b c x y z (by simpa using h1) (by simpa using h2)]
theorem xor3_length : ∀ (a b c : List Nat), a.length = b.length → a.length = c.length → (xor3 a b c).length = a.length
  | [], [], [], _, _ => rfl
  | p :: a, q :: b, s :: c, h1, h2 => by
    simp only [xor3, List.length_cons]
    rw [xor3_length a b c (by simpa using h1) (by simpa using h2)]
theorem xor_6 (a b c x y z : Nat) : (a ^^^ b ^^^ c) ^^^ (x ^^^ y ^^^ z) = (a ^^^ x) ^^^ (b ^^^ y) ^^^ (c ^^^ z) := by
  apply Nat.eq_of_testBit_eq
  intro i
  simp only [Nat.testBit_xor]
  cases a.testBit i <;> cases b.testBit i <;> cases c.testBit i <;> cases x.testBit i <;> cases y.testBit i <;> cases z.testBit i <;> rfl
theorem regL_xor3 : ∀ (a b c : List Nat) (r s t : Nat), a.length = b.length → a.length = c.length → regL (r ^^^ s ^^^ t) (xor3 a b c) = regL r a ^^^ regL s b ^^^ regL t c
  | [], [], [], r, s, t, _, _ => rfl
  | x :: a, y :: b, z :: c, r, s, t, h1, h2 => by
    simp only [xor3, regL_cons]
    rw [← regL_xor3 a b c _ _ _ (by simpa using h1) (by simpa using h2)]
    congr 1
    unfold byteIn
    rw [xor_6, stN_xor, stN_xor]
theorem crcL_xor3 (a b c : List Nat) (h1 : a.length = b.length) (h2 : a.length = c.length) (ha : ∀ x ∈ a, x < 256) (hb : ∀ x ∈ b, x < 256) (hc : ∀ x ∈ c, x < 256) :
    crcL a ^^^ crcL b ^^^ crcL c = crcL (xor3 a b c) := by
  have la := regL_lt (r := cFull) (by decide) a ha
  have lb := regL_lt (r := cFull) (by decide) b hb
  have lc := regL_lt (r := cFull) (by decide) c hc
  have hx := regL_xor3 a b c cFull cFull cFull h1 h2
  rw [show cFull ^^^ cFull ^^^ cFull = cFull by decide] at hx
  have lx : regL cFull (xor3 a b c) < 4294967296 := by rw [hx]; exact Nat.xor_lt_two_pow (n := 32) (Nat.xor_lt_two_pow la lb) lc
  unfold crcL
  rw [full_xor la, full_xor lb, full_xor lc, full_xor lx, hx]
  generalize regL cFull a = p
  generalize regL cFull b = q
  generalize regL cFull c = s
  rw [show (p ^^^ cFull) ^^^ (q ^^^ cFull) ^^^ (s ^^^ cFull) = (p ^^^ q ^^^ s) ^^^ (cFull ^^^ cFull ^^^ cFull) from (xor_6 p q s cFull cFull cFull).symm]
  rw [show cFull ^^^ cFull ^^^ cFull = cFull by decide]
theorem xor3_lt : ∀ (a b c : List Nat), (∀ x ∈ a, x < 256) → (∀ x ∈ b, x < 256) → (∀ x ∈ c, x < 256) → ∀ x ∈ xor3 a b c, x < 256
  | [], _, _, _, _, _, x, h => by simp [xor3] at h
  | _ :: _, [], _, _, _, _, x, h => by simp [xor3] at h
  | _ :: _, _ :: _, [], _, _, _, x, h => by simp [xor3] at h
  | p :: a, q :: b, s :: c, ha, hb, hc, x, h => by
    simp only [xor3, List.mem_cons] at h
    rcases h with rfl | h
    · exact Nat.xor_lt_two_pow (n := 8) (Nat.xor_lt_two_pow (ha p (by simp)) (hb q (by simp))) (hc s (by simp))
    · exact xor3_lt a b c (fun y hy => ha y (by simp [hy])) (fun y hy => hb y (by simp [hy])) (fun y hy => hc y (by simp [hy])) x h
end Go.Proofs.Ytjhgegoipnjgmaa.Plain
