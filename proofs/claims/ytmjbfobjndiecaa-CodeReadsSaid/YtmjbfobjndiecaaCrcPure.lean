
/-
  The sum of bytes as plain numbers: the register's step is a linear map that can be undone. Nothing of the landed code is spoken of here.
-/
import Derived.Below
namespace Go.Proofs.Ytmjbfobjndiecaa.Plain
set_option linter.unusedVariables false

def cPoly : Nat := 3988292384
def cFull : Nat := 4294967295
/-- One step of the register. -/
def st (r : Nat) : Nat := if r % 2 = 1 then r / 2 ^^^ cPoly else r / 2
def stN : Nat → Nat → Nat
  | 0, r => r
  | n + 1, r => stN n (st r)
theorem stN_succ (n r : Nat) : stN (n + 1) r = stN n (st r) := rfl
theorem stN_zero (r : Nat) : stN 0 r = r := rfl
theorem stN_add (m n r : Nat) : stN (m + n) r = stN n (stN m r) := by
  induction m generalizing r with
  | zero => simp [stN]
  | succ m ih => rw [Nat.succ_add, stN_succ, ih, stN_succ]
theorem stN_last (n r : Nat) : stN (n + 1) r = st (stN n r) := by rw [stN_add]; rfl

theorem xor_rc (a b c : Nat) : a ^^^ b ^^^ c = a ^^^ c ^^^ b := by rw [Nat.xor_assoc, Nat.xor_comm b, ← Nat.xor_assoc]
theorem xor_eq0 {a b : Nat} (h : a ^^^ b = 0) : a = b := by
  have : a ^^^ (b ^^^ b) = 0 ^^^ b := by rw [← Nat.xor_assoc, h]
  simpa using this
theorem xor_half (a b : Nat) : (a ^^^ b) / 2 = a / 2 ^^^ b / 2 := by
  have := Nat.xor_div_two_pow (a := a) (b := b) (n := 1); simpa using this
theorem xor_odd (a b : Nat) : (a ^^^ b) % 2 = (a % 2) ^^^ (b % 2) := by
  have := Nat.xor_mod_two_pow (a := a) (b := b) (n := 1); simpa using this
theorem st_xor (a b : Nat) : st (a ^^^ b) = st a ^^^ st b := by
  unfold st
  rw [xor_half, xor_odd]
  rcases Nat.mod_two_eq_zero_or_one a with ha | ha <;> rcases Nat.mod_two_eq_zero_or_one b with hb | hb <;> rw [ha, hb] <;> simp
  · rw [← Nat.xor_assoc]
  · rw [xor_rc]
  · rw [xor_rc, ← Nat.xor_assoc, Nat.xor_assoc, Nat.xor_self, Nat.xor_zero]
theorem st_zero : st 0 = 0 := by decide
theorem stN_xor (n a b : Nat) : stN n (a ^^^ b) = stN n a ^^^ stN n b := by
  induction n generalizing a b with
  | zero => rfl
  | succ n ih => rw [stN_succ, st_xor, ih]; rfl
theorem stN_0 (n : Nat) : stN n 0 = 0 := by
  induction n with
  | zero => rfl
  | succ n ih => rw [stN_succ, st_zero, ih]
theorem st_lt {r : Nat} (h : r < 4294967296) : st r < 4294967296 := by
  unfold st
  split
  · exact Nat.xor_lt_two_pow (n := 32) (by omega) (by decide)
  · omega
theorem stN_lt (n : Nat) {r : Nat} (h : r < 4294967296) : stN n r < 4294967296 := by
  induction n generalizing r with
  | zero => exact h
  | succ n ih => exact ih (st_lt h)
/-- Nothing but 0 steps to 0. -/
theorem st_ne {r : Nat} (h : r < 4294967296) (h0 : r ≠ 0) : st r ≠ 0 := by
  unfold st
  split
  · intro e
    have e2 : r / 2 = cPoly := xor_eq0 e
    unfold cPoly at e2
    omega
  · omega
theorem stN_ne (n : Nat) {r : Nat} (h : r < 4294967296) (h0 : r ≠ 0) : stN n r ≠ 0 := by
  induction n generalizing r with
  | zero => exact h0
  | succ n ih => exact ih (st_lt h) (st_ne h h0)
theorem st_even (q : Nat) : st (2 * q) = q := by unfold st; rw [if_neg (by omega)]; omega
theorem stN_shift (n q : Nat) : stN n (2 ^ n * q) = q := by
  induction n generalizing q with
  | zero => simp [stN]
  | succ n ih =>
    rw [stN_succ, show 2 ^ (n + 1) * q = 2 * (2 ^ n * q) by rw [Nat.pow_succ, Nat.mul_comm (2 ^ n) 2, Nat.mul_assoc], st_even, ih]
theorem st8_shift (q : Nat) : stN 8 (256 * q) = q := stN_shift 8 q

/-- A byte into the register. -/
def byteIn (r x : Nat) : Nat := stN 8 (r ^^^ x)
/-- The register behind bytes. -/
def regL (r : Nat) (bs : List Nat) : Nat := bs.foldl byteIn r
def crcL (bs : List Nat) : Nat := cFull - regL cFull bs
theorem regL_nil (r : Nat) : regL r [] = r := rfl
theorem regL_cons (r x : Nat) (bs : List Nat) : regL r (x :: bs) = regL (byteIn r x) bs := rfl
theorem regL_append (r : Nat) (a b : List Nat) : regL r (a ++ b) = regL (regL r a) b := List.foldl_append
theorem regL_snoc (r : Nat) (a : List Nat) (x : Nat) : regL r (a ++ [x]) = byteIn (regL r a) x := by rw [regL_append]; rfl
theorem byteIn_lt {r x : Nat} (hr : r < 4294967296) (hx : x < 256) : byteIn r x < 4294967296 :=
  stN_lt 8 (Nat.xor_lt_two_pow (n := 32) hr (by omega))
theorem regL_lt {r : Nat} (hr : r < 4294967296) (bs : List Nat) (hx : ∀ x ∈ bs, x < 256) : regL r bs < 4294967296 := by
  induction bs generalizing r with
  | nil => exact hr
  | cons x bs ih => exact ih (byteIn_lt hr (hx x (by simp))) (fun y hy => hx y (by simp [hy]))

theorem xor_low (r x : Nat) (hx : x < 256) : r ^^^ x = (r % 256 ^^^ x) ^^^ 256 * (r / 256) := by
  have h1 : r = r % 256 ^^^ 256 * (r / 256) := by
    apply Nat.eq_of_testBit_eq
    intro i
    rw [Nat.testBit_xor, show (256 : Nat) = 2 ^ 8 by rfl, Nat.testBit_mod_two_pow, Nat.testBit_two_pow_mul, Nat.testBit_div_two_pow]
    by_cases hi : i < 8
    · have h8 : ¬ 8 ≤ i := by omega
      simp [hi, h8]
    · have h8 : 8 ≤ i := by omega
      simp [hi, h8]
  conv => lhs; rw [h1]
  rw [xor_rc]
/-- A byte into the register, by a table of bytes' steps. -/
theorem byteIn_table (r x : Nat) (hx : x < 256) : byteIn r x = stN 8 (r % 256 ^^^ x) ^^^ r / 256 := by
  unfold byteIn
  rw [xor_low r x hx, stN_xor, st8_shift]

/-- Four bytes' word at most. -/
def wordL : List Nat → Nat
  | [] => 0
  | x :: r => x ^^^ 256 * wordL r
theorem wordL_lt (xs : List Nat) (hx : ∀ x ∈ xs, x < 256) : wordL xs < 256 ^ xs.length := by
  induction xs with
  | nil => simp [wordL]
  | cons x r ih =>
    have h1 := ih (fun y hy => hx y (by simp [hy]))
    have h2 := hx x (by simp)
    unfold wordL
    rw [List.length_cons, show 256 ^ (r.length + 1) = 2 ^ (8 * (r.length + 1)) by rw [show (256 : Nat) = 2 ^ 8 by rfl, ← Nat.pow_mul]]
    refine Nat.xor_lt_two_pow ?_ ?_
    · have : (2 : Nat) ^ 8 ≤ 2 ^ (8 * (r.length + 1)) := Nat.pow_le_pow_right (by omega) (by omega)
      omega
    · rw [show 8 * (r.length + 1) = 8 * r.length + 8 by omega, Nat.pow_add, Nat.mul_comm, show (2 : Nat) ^ (8 * r.length) = 256 ^ r.length by rw [show (256 : Nat) = 2 ^ 8 by rfl, ← Nat.pow_mul]]
      exact Nat.mul_lt_mul_of_pos_right h1 (by omega)
theorem wordL_inj : ∀ (xs ys : List Nat), xs.length = ys.length → (∀ x ∈ xs, x < 256) → (∀ x ∈ ys, x < 256) → wordL xs = wordL ys → xs = ys
  | [], [], _, _, _, _ => rfl
  | x :: r, y :: s, hl, hx, hy, h => by
    have a := hx x (by simp)
    have b := hy y (by simp)
    unfold wordL at h
    have h1 := congrArg (· % 256) h
    have h2 := congrArg (· / 256) h
    simp only [show (256 : Nat) = 2 ^ 8 by rfl, Nat.xor_mod_two_pow, Nat.xor_div_two_pow] at h1 h2
    simp only [show (2 : Nat) ^ 8 = 256 by rfl] at h1 h2
    rw [Nat.mul_mod_right, Nat.mul_mod_right, Nat.mod_eq_of_lt a, Nat.mod_eq_of_lt b] at h1
    rw [Nat.mul_div_cancel_left _ (by omega), Nat.mul_div_cancel_left _ (by omega), Nat.div_eq_of_lt a, Nat.div_eq_of_lt b] at h2
    simp only [Nat.xor_zero, Nat.zero_xor] at h1 h2
    rw [h1, wordL_inj r s (by simpa using hl) (fun z hz => hx z (by simp [hz])) (fun z hz => hy z (by simp [hz])) h2]
theorem regL_word (xs : List Nat) : ∀ r, regL r xs = stN (8 * xs.length) (r ^^^ wordL xs) := by
  induction xs with
  | nil => intro r; simp [regL, wordL, stN]
  | cons x s ih =>
    intro r
    rw [regL_cons, ih, List.length_cons, show 8 * (s.length + 1) = 8 + 8 * s.length by omega, stN_add]
    congr 1
    show stN 8 (r ^^^ x) ^^^ wordL s = stN 8 (r ^^^ (x ^^^ 256 * wordL s))
    rw [← Nat.xor_assoc, stN_xor 8 (r ^^^ x), st8_shift]
/-- Registers that differ stay so behind the same bytes. -/
theorem regL_xor (a b : Nat) (bs : List Nat) : regL a bs ^^^ regL b bs = stN (8 * bs.length) (a ^^^ b) := by
  rw [regL_word, regL_word, ← stN_xor]
  congr 1
  rw [Nat.xor_comm b, ← Nat.xor_assoc, Nat.xor_assoc a, Nat.xor_self, Nat.xor_zero]
theorem regL_ne {a b : Nat} (ha : a < 4294967296) (hb : b < 4294967296) (h : a ≠ b) (bs : List Nat) : regL a bs ≠ regL b bs := by
  intro e
  have := regL_xor a b bs
  rw [e, Nat.xor_self] at this
  exact stN_ne _ (Nat.xor_lt_two_pow (n := 32) ha hb) (fun h0 => h (xor_eq0 h0)) this.symm
theorem regL_burst {r : Nat} (hr : r < 4294967296) (xs ys : List Nat) (hl : xs.length = ys.length) (h4 : xs.length ≤ 4) (hx : ∀ x ∈ xs, x < 256) (hy : ∀ x ∈ ys, x < 256) (hne : xs ≠ ys) : regL r xs ≠ regL r ys := by
  intro e
  rw [regL_word, regL_word, ← hl] at e
  have hle : (256 : Nat) ^ xs.length ≤ 256 ^ 4 := Nat.pow_le_pow_right (by omega) h4
  have w1 := wordL_lt xs hx
  have w2 := wordL_lt ys hy
  rw [← hl] at w2
  have w1' : wordL xs < 2 ^ 32 := by have : (256 : Nat) ^ 4 = 2 ^ 32 := by decide
                                     omega
  have w2' : wordL ys < 2 ^ 32 := by have : (256 : Nat) ^ 4 = 2 ^ 32 := by decide
                                     omega
  have h0 : stN (8 * xs.length) ((r ^^^ wordL xs) ^^^ (r ^^^ wordL ys)) = 0 := by rw [stN_xor, e, Nat.xor_self]
  rw [show (r ^^^ wordL xs) ^^^ (r ^^^ wordL ys) = wordL xs ^^^ wordL ys by rw [Nat.xor_comm r (wordL xs), Nat.xor_assoc, ← Nat.xor_assoc r r, Nat.xor_self, Nat.zero_xor]] at h0
  refine stN_ne _ (Nat.xor_lt_two_pow (n := 32) w1' w2') (fun h => ?_) h0
  exact hne (wordL_inj xs ys hl hx hy (xor_eq0 h))
theorem full_xor {a : Nat} (h : a < 4294967296) : cFull - a = a ^^^ cFull := by
  rw [show cFull - a = 2 ^ 32 - (a + 1) by unfold cFull; omega]
  apply Nat.eq_of_testBit_eq
  intro i
  rw [Nat.testBit_two_pow_sub_succ (by omega), Nat.testBit_xor, show cFull = 2 ^ 32 - 1 by rfl, Nat.testBit_two_pow_sub_one]
  by_cases hi : i < 32
  · simp [hi]
  · have : a.testBit i = false := Nat.testBit_lt_two_pow (Nat.lt_of_lt_of_le (show a < 2 ^ 32 by omega) (Nat.pow_le_pow_right (by omega) (by omega)))
    simp [hi, this]
theorem crcL_lt (bs : List Nat) : crcL bs < 4294967296 := by unfold crcL cFull; omega
/-- Bytes that differ within four side by side alone have another sum. -/
theorem crcL_burst (p xs ys s : List Nat) (hl : xs.length = ys.length) (h4 : xs.length ≤ 4) (hp : ∀ x ∈ p, x < 256) (hx : ∀ x ∈ xs, x < 256) (hy : ∀ x ∈ ys, x < 256) (hs : ∀ x ∈ s, x < 256) (hne : xs ≠ ys) :
    crcL (p ++ (xs ++ s)) ≠ crcL (p ++ (ys ++ s)) := by
  have hr := regL_lt (r := cFull) (by decide) p hp
  have h1 := regL_burst hr xs ys hl h4 hx hy hne
  have hx' := regL_lt hr xs hx
  have hy' := regL_lt hr ys hy
  have h2 := regL_ne hx' hy' h1 s
  have l1 := regL_lt hx' s hs
  have l2 := regL_lt hy' s hs
  unfold crcL
  rw [regL_append, regL_append, regL_append, regL_append]
  generalize regL (regL (regL cFull p) xs) s = A at *
  generalize regL (regL (regL cFull p) ys) s = C at *
  unfold cFull
  omega
end Go.Proofs.Ytmjbfobjndiecaa.Plain
