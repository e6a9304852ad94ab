
/-
  How a program is read of bytes, as plain data: what each reading tells, and where it stands behind it. Nothing of the landed code is spoken of here.
-/
import Derived.Test.YtmjbfobjndiecaaPutA
import Derived.Test.YtmjbfobjndiecaaPureRs
import Derived.Test.YtmjbfobjndiecaaRdB
namespace Go.Proofs.Ytmjbfobjndiecaa
open Go.RowKit Plain

/-- Where a reader stands: how far it is, its error. -/
abbrev Sx := Nat × Int
/-- One reading: of the bytes at its place it tells a number, how many it took, its error. -/
def stP (f : List Nat → Int × Nat × Nat) (bs : List Nat) (s : Sx) : Int × Sx := (orZ s.2 (f (bs.drop s.1)).1, stepR s.1 s.2 (f (bs.drop s.1)).2.1 (f (bs.drop s.1)).2.2)
def sh (xs : List Nat) : Int × Nat × Nat := (((rs xs).1 : Int), (rs xs).2.1, (rs xs).2.2)
def sg (xs : List Nat) : Int × Nat × Nat := if (rs xs).2.2 ≠ 0 then (0, 0, (rs xs).2.2) else if (rs xs).1 ≤ 4611686018427387903 then (unzig (rs xs).1, (rs xs).2.1, 0) else (0, 0, 3)
def fx (xs : List Nat) : Int × Nat × Nat := if xs.length < 1 then (0, 0, 2) else ((leV (xs.take 1) : Int), 1, 0)
def ls (m : Nat) (xs : List Nat) : Int × Nat × Nat := if (rs xs).2.2 ≠ 0 then (0, 0, (rs xs).2.2) else if m < (rs xs).1 then (0, 0, 3) else if xs.length < (rs xs).2.1 + (rs xs).1 then (0, 0, 2) else (((rs xs).1 : Int), (rs xs).2.1, 0)

/-- So many readings, one behind the other. -/
def iterP {α : Type} (rd : Sx → α × Sx) : Nat → Sx → List α × Sx
  | 0, s => ([], s)
  | k + 1, s => ((iterP rd k s).1 ++ [(rd (iterP rd k s).2).1], (rd (iterP rd k s).2).2)
def listP {α : Type} (rd : Sx → α × Sx) (m : Nat) (bs : List Nat) (s : Sx) : List α × Sx := iterP rd (stP (ls m) bs s).1.toNat (stP (ls m) bs s).2
def instrP (bs : List Nat) (s : Sx) : IV × Sx := (⟨(stP fx bs s).1, (stP sg bs (stP fx bs s).2).1⟩, (stP sg bs (stP fx bs s).2).2)
def intsP (bs : List Nat) (s : Sx) : List Int × Sx := listP (stP sh bs) 8 bs s
def funcP (bs : List Nat) (s : Sx) : FV × Sx := (⟨(stP sh bs s).1, (listP (instrP bs) 64 bs (stP sh bs s).2).1⟩, (listP (instrP bs) 64 bs (stP sh bs s).2).2)
def pf (bs : List Nat) : List FV × Sx := listP (funcP bs) 16 bs (0, 0)
def pm (bs : List Nat) : Int × Sx := stP sh bs (pf bs).2
def pc (bs : List Nat) : List Int × Sx := intsP bs (pm bs).2
def ps (bs : List Nat) : List Int × Sx := intsP bs (pc bs).2
def ph (bs : List Nat) : List Int × Sx := intsP bs (ps bs).2
def px (bs : List Nat) : List (List Int) × Sx := listP (intsP bs) 8 bs (ph bs).2
def pt (bs : List Nat) : Int × Sx := stP sh bs (px bs).2
def progP (bs : List Nat) : PV := ⟨(pf bs).1, (pm bs).1, (pc bs).1, (ps bs).1, (ph bs).1, (px bs).1, (pt bs).1⟩
def noP : PV := ⟨[], 0, [], [], [], [], 0⟩
/-- Why bytes are no program's, or 0. -/
def readE (bs : List Nat) : Int := if (pt bs).2.2 ≠ 0 then (pt bs).2.2 else if (pt bs).2.1 < bs.length then 3 else if mayB (progP bs) then 0 else 1
def readP (bs : List Nat) : PV := if readE bs = 0 then progP bs else noP

theorem iterP_length {α : Type} (rd : Sx → α × Sx) : ∀ k s, (iterP rd k s).1.length = k
  | 0, _ => rfl
  | k + 1, s => by simp [iterP, iterP_length rd k s]

/-! ### Bounds -/

theorem drop_lt {bs : List Nat} (hx : ∀ x ∈ bs, x < 256) (k : Nat) : ∀ x ∈ bs.drop k, x < 256 := fun x h => hx x (List.mem_of_mem_drop h)
theorem sh_of {bs : List Nat} (hx : ∀ x ∈ bs, x < 256) {V K E : Nat} (h : rs bs = (V, K, E)) : K ≤ bs.length ∧ V ≤ 9223372036854775807 ∧ (E ≠ 0 → V = 0 ∧ K = 0 ∧ E ≤ 3) := by
  have h1 := rs_le hx
  have h2 := rs_int hx
  rw [h] at h1 h2
  refine ⟨h1, h2, fun he => ?_⟩
  have := rs_err (xs := bs) (by rw [h]; exact he)
  rw [h] at this
  exact ⟨this.1, this.2.1, by rcases this.2.2 with e | e <;> (simp at e; omega)⟩
/-- How a reading goes: it takes no more than there is, where it has no error; and nothing, where it has. -/
structure Goes (f : List Nat → Int × Nat × Nat) : Prop where
  le : ∀ xs, (∀ x ∈ xs, x < 256) → (f xs).2.1 ≤ xs.length
  fit : ∀ xs, (∀ x ∈ xs, x < 256) → -9223372036854775808 ≤ (f xs).1 ∧ (f xs).1 ≤ 9223372036854775807
theorem goes_sh : Goes sh := ⟨fun xs hx => rs_le hx, fun xs hx => by have := rs_int hx; simp only [sh]; omega⟩
theorem goes_fx : Goes fx := ⟨fun xs hx => by unfold fx; split <;> simp; omega, fun xs hx => by
  unfold fx
  split
  · simp
  · have := leV_lt (xs.take 1) (fun x h => hx x (List.mem_of_mem_take h))
    have h1 : (xs.take 1).length ≤ 1 := by simp; omega
    have h2 : 256 ^ (xs.take 1).length ≤ 256 ^ 1 := Nat.pow_le_pow_right (by omega) h1
    simp only
    omega⟩
theorem goes_sg : Goes sg := ⟨fun xs hx => by
    have := rs_le hx
    unfold sg
    split
    · simp
    · split
      · exact this
      · simp, fun xs hx => by
    unfold sg
    split
    · simp
    · split
      · rename_i h
        simp only [unzig]
        split <;> omega
      · simp⟩
theorem goes_ls (m : Nat) : Goes (ls m) := ⟨fun xs hx => by
    have := rs_le hx
    unfold ls
    split
    · simp
    · split
      · simp
      · split
        · simp
        · exact this, fun xs hx => by
    have := rs_int hx
    unfold ls
    split
    · simp
    · split
      · simp
      · split
        · simp
        · simp only; omega⟩
theorem ls_nat (m : Nat) (bs : List Nat) (s : Sx) : ∃ n : Nat, (stP (ls m) bs s).1 = (n : Int) ∧ n ≤ m ∧ n ≤ bs.length := by
  unfold stP
  simp only [orZ]
  split
  · simp only [ls]
    split
    · exact ⟨0, rfl, by omega, by omega⟩
    · split
      · exact ⟨0, rfl, by omega, by omega⟩
      · split
        · exact ⟨0, rfl, by omega, by omega⟩
        · rename_i h1 h2 h3
          refine ⟨_, rfl, by omega, ?_⟩
          simp only [List.length_drop] at h3
          omega
  · exact ⟨0, rfl, by omega, by omega⟩
theorem stP_le {f : List Nat → Int × Nat × Nat} (hf : Goes f) {bs : List Nat} (hx : ∀ x ∈ bs, x < 256) {s : Sx} (hs : s.1 ≤ bs.length) : (stP f bs s).2.1 ≤ bs.length := by
  have := hf.le (bs.drop s.1) (drop_lt hx _)
  rw [List.length_drop] at this
  unfold stP stepR
  simp only
  split
  · split <;> simp <;> omega
  · exact hs
theorem stP_fit {f : List Nat → Int × Nat × Nat} (hf : Goes f) {bs : List Nat} (hx : ∀ x ∈ bs, x < 256) (s : Sx) : -9223372036854775808 ≤ (stP f bs s).1 ∧ (stP f bs s).1 ≤ 9223372036854775807 := by
  have := hf.fit (bs.drop s.1) (drop_lt hx _)
  unfold stP orZ
  simp only
  split
  · exact this
  · omega
/-- A reading that stays within the bytes. -/
def Stays {α : Type} (bs : List Nat) (rd : Sx → α × Sx) : Prop := ∀ s : Sx, s.1 ≤ bs.length → (rd s).2.1 ≤ bs.length
theorem Stays.st {f : List Nat → Int × Nat × Nat} (hf : Goes f) {bs : List Nat} (hx : ∀ x ∈ bs, x < 256) : Stays bs (stP f bs) := fun _ h => stP_le hf hx h
theorem Stays.iter {α : Type} {bs : List Nat} {rd : Sx → α × Sx} (h : Stays bs rd) : ∀ k (s : Sx), s.1 ≤ bs.length → (iterP rd k s).2.1 ≤ bs.length
  | 0, _, hs => hs
  | k + 1, s, hs => h _ (Stays.iter h k s hs)
theorem Stays.list {α : Type} {bs : List Nat} {rd : Sx → α × Sx} (h : Stays bs rd) (hx : ∀ x ∈ bs, x < 256) (m : Nat) : Stays bs (listP rd m bs) := fun _ hs => h.iter _ _ (stP_le (goes_ls m) hx hs)
theorem stays_instr {bs : List Nat} (hx : ∀ x ∈ bs, x < 256) : Stays bs (instrP bs) := fun _ hs => stP_le goes_sg hx (stP_le goes_fx hx hs)
theorem stays_ints {bs : List Nat} (hx : ∀ x ∈ bs, x < 256) : Stays bs (intsP bs) := (Stays.st goes_sh hx).list hx 8
theorem stays_func {bs : List Nat} (hx : ∀ x ∈ bs, x < 256) : Stays bs (funcP bs) := fun _ hs => ((stays_instr hx).list hx 64) _ (stP_le goes_sh hx hs)
theorem listP_len {α : Type} (rd : Sx → α × Sx) (m : Nat) (bs : List Nat) (s : Sx) : (listP rd m bs s).1.length ≤ m := by
  unfold listP
  rw [iterP_length]
  obtain ⟨n, h, hn, _⟩ := ls_nat m bs s
  rw [h]; simpa using hn
theorem iterP_all {α : Type} {P : α → Prop} {rd : Sx → α × Sx} (h : ∀ s, P (rd s).1) : ∀ k s, ∀ x ∈ (iterP rd k s).1, P x
  | 0, _, x, hx => by simp [iterP] at hx
  | k + 1, s, x, hx => by
    rcases List.mem_append.1 hx with hx | hx
    · exact iterP_all h k s x hx
    · simp at hx; subst hx; exact h _
theorem listP_all {α : Type} {P : α → Prop} {rd : Sx → α × Sx} (h : ∀ s, P (rd s).1) (m : Nat) (bs : List Nat) (s : Sx) : ∀ x ∈ (listP rd m bs s).1, P x := iterP_all h _ _
theorem ints_fit {bs : List Nat} (hx : ∀ x ∈ bs, x < 256) (s : Sx) : FitL (intsP bs s).1 := listP_all (P := fun x => -9223372036854775808 ≤ x ∧ x ≤ 9223372036854775807) (fun s => stP_fit goes_sh hx s) 8 bs s
theorem func_fit {bs : List Nat} (hx : ∀ x ∈ bs, x < 256) (s : Sx) : FitF (funcP bs s).1 :=
  ⟨stP_fit goes_sh hx s, listP_all (P := fun i : IV => (-9223372036854775808 ≤ i.op ∧ i.op ≤ 9223372036854775807) ∧ (-9223372036854775808 ≤ i.a ∧ i.a ≤ 9223372036854775807)) (fun s => ⟨stP_fit goes_fx hx s, stP_fit goes_sg hx _⟩) 64 bs (stP sh bs s).2⟩
theorem prog_fit {bs : List Nat} (hx : ∀ x ∈ bs, x < 256) : Fit (progP bs) :=
  ⟨listP_all (P := FitF) (func_fit hx) 16 bs _, stP_fit goes_sh hx _, ints_fit hx _, ints_fit hx _, ints_fit hx _, listP_all (P := FitL) (ints_fit hx) 8 bs _, stP_fit goes_sh hx _⟩
structure Few3 (p : PV) : Prop where
  funcs : p.funcs.length ≤ 16
  code : ∀ f ∈ p.funcs, f.code.length ≤ 64
  conds : p.conds.length ≤ 8
  semas : p.semas.length ≤ 8
  chans : p.chans.length ≤ 8
  choices : p.choices.length ≤ 8
  each : ∀ l ∈ p.choices, l.length ≤ 8
theorem prog_few (bs : List Nat) : Few3 (progP bs) :=
  ⟨listP_len _ 16 bs _, listP_all (P := fun f : FV => f.code.length ≤ 64) (fun _ => listP_len _ 64 bs _) 16 bs _, listP_len _ 8 bs _, listP_len _ 8 bs _, listP_len _ 8 bs _, listP_len _ 8 bs _, listP_all (P := fun l : List Int => l.length ≤ 8) (fun _ => listP_len _ 8 bs _) 8 bs _⟩
end Go.Proofs.Ytmjbfobjndiecaa
