/-
  A Writer, and beside it a slice of the call's own: what stays as it is when one of them grows.
-/
import Derived.Test.YtnhibnjgdkpomaaRef
import Derived.Test.YtnhibnjgdkpomaaStr
namespace Go.Proofs.Ytnhibnjgdkpomaa
open Go.RowKit Plain

/-- The Writer in block g holds L1, the slice A holds L2; they share no memory; below B nothing has turned since w. -/
def Two (B g : Nat) (w : World) (v : Value) (A : Option Addr) (n c : Nat) (L1 L2 : List Nat) (wr : World) : Prop :=
  Wr wr B g v L1 ∧ wr.ownsRow B 5 1 (.slice A n c) n (BS L2) ∧ (∀ k, v.ownBlock = some k → (Value.slice A n c).ownBlock ≠ some k) ∧ Below B w wr ∧ B ≤ g

section
variable {B g n c : Nat} {w wr w1 : World} {v : Value} {A : Option Addr} {L1 L2 : List Nat}
theorem Two.size (h : Two B g w v A n c L1 L2 wr) : B ≤ wr.heap.size := by have := h.1.lt; have := h.2.2.2.2; omega
theorem Two.below (h : Two B g w v A n c L1 L2 wr) (hb : Below wr.heap.size wr w1) : Two B g w v A n c L1 L2 w1 :=
  ⟨h.1.below hb, (Fr.of_below hb).own h.2.1 (fun i hi he => by have := (h.2.1.lt i hi).2; omega), h.2.2.1, h.2.2.2.1.trans (hb.mono h.size), h.2.2.2.2⟩
theorem Two.drewN (h : Two B g w v A n c L1 L2 wr) (k : Nat) : Two B g w v A n c L1 L2 (wr.drewN k) := h.below (below_drews (Below.refl _ _) k)
theorem Two.wrote {L1' : List Nat} (h : Two B g w v A n c L1 L2 wr) (hs : WStep B g v L1' wr w1) : ∃ v', Two B g w v' A n c L1' L2 w1 := by
  obtain ⟨v', h1, h2, h3⟩ := hs
  refine ⟨v', h1, h2.own h.2.1 ?_, ?_, h.2.2.2.1.trans (h.1.step h.2.2.2.2 h2), h.2.2.2.2⟩
  · rintro i hi (rfl | he)
    · exact own_blk_ne h.2.1 h.1.1 (by decide) hi
    · exact h.2.2.1 i he hi
  · intro k hk hk'
    rcases h3 k hk with he | he
    · exact h.2.2.1 k he hk'
    · have := (h.2.1.lt k hk').2
      omega
theorem Two.grew {A' : Option Addr} {n' c' : Nat} {L2' : List Nat} (h : Two B g w v A n c L1 L2 wr) (ho : w1.ownsRow B 5 1 (.slice A' n' c') n' (BS L2')) (hg : wr.grownBy w1 (Value.slice A n c).ownBlock)
    (hw : ∀ k, (Value.slice A' n' c').ownBlock = some k → (Value.slice A n c).ownBlock = some k ∨ wr.heap.size ≤ k) : Two B g w v A' n' c' L1 L2' w1 := by
  refine ⟨h.1.fr (Fr.of_grown hg) ?_, ho, ?_, h.2.2.2.1.grown hg h.size (fun k hk => (h.2.1.lt k hk).1), h.2.2.2.2⟩
  · rintro i (rfl | hi) he
    · exact own_blk_ne h.2.1 h.1.1 (by decide) he
    · exact h.2.2.1 i hi he
  · intro k hk hk'
    rcases hw k hk' with he | he
    · exact h.2.2.1 k hk he
    · have := (h.1.2.lt k hk).2
      omega
theorem at_of {v v' : Value} {m : Nat} (h : v'.ownBlock = v.ownBlock ∨ v'.ownBlock = some m) : ∀ k, v'.ownBlock = some k → v.ownBlock = some k ∨ m ≤ k := by
  intro k hk
  rcases h with he | he
  · exact .inl (he ▸ hk)
  · rw [he] at hk
    injection hk with hk
    exact .inr (by omega)
end

theorem strCells_eq (s : ByteArray) : Lib.strCells s = BS (SB s) := by simp [Lib.strCells, BS, SB, B]

def cutS (s : ByteArray) : ByteArray := if s.size ≤ 200 then s else s.extract 0 200
theorem cutS_size (s : ByteArray) : (cutS s).size ≤ 200 := by
  unfold cutS
  split
  · assumption
  · simp; omega
/-- The bytes of one thing that is put. -/
def PutB (p : PutV) : List Nat :=
  if p.kind = 0 then fixedL (p.v % 18446744073709551616).toNat (wideOf p.n)
  else if p.kind = 1 then shortL p.v.toNat
  else if p.kind = 2 then shortL (zig (clampZ p.v))
  else if p.kind = 3 then shortL (cutS p.s).size ++ SB (cutS p.s)
  else SB (cutS p.s)
theorem zig_le (a : Int) : zig (clampZ a) ≤ 9223372036854775807 := by
  unfold zig clampZ
  split <;> omega
theorem wideOf_le (a : Int) : wideOf a ≤ 8 := by rcases wideOf_wide a with h | h | h | h <;> omega
theorem PutB_length {p : PutV} (hv : p.v ≤ 9223372036854775807) : (PutB p).length ≤ 210 := by
  have hc := cutS_size p.s
  unfold PutB
  split
  · rw [fixedL_length]; have := wideOf_le p.n; omega
  split
  · have := shortL_nine (n := p.v.toNat) (by omega); omega
  split
  · have := shortL_nine (zig_le p.v); omega
  split
  · rw [List.length_append, SB_length]; have := shortL_nine (n := (cutS p.s).size) (by omega); omega
  · rw [SB_length]; omega
def putsL (ps : List PutV) (i : Nat) : List Nat := (ps.take i).flatMap PutB
theorem putsL_succ {ps : List PutV} {i : Nat} {p : PutV} (h : ps[i]? = some p) : putsL ps (i + 1) = putsL ps i ++ PutB p := by
  obtain ⟨hi, rfl⟩ := List.getElem?_eq_some_iff.1 h
  unfold putsL
  rw [List.take_succ_eq_append_getElem hi, List.flatMap_append]
  simp

def PRel (w : World) (g n : Nat) (ps : List PutV) (o s : Value) (wr : World) : Prop :=
  ∃ (i : Nat) (v : Value) (A : Option Addr) (c : Nat) (L : List Nat), s = .int .i64 (i : Int) ∧ o = .slice A L.length c ∧ i ≤ 20 ∧ i ≤ n ∧ L.length ≤ i * 210 ∧ Hid (L = putsL ps i) ∧ Two w.heap.size g w v A L.length c L L wr
theorem p_close {w wr : World} {g n i m c : Nat} {ps : List PutV} {p : PutV} {L b : List Nat} {v : Value} {A : Option Addr} {s : Value} (hb : b = PutB p) (hm : b.length = m) (hs : s = .int .i64 ((i + 1 : Nat) : Int)) (hT : Two w.heap.size g w v A (L.length + m) c (L ++ b) (L ++ b) wr)
    (hS : putsL ps (i + 1) = putsL ps i ++ PutB p) (hL : L = putsL ps i) (h1 : i < n) (h2 : i < 20) (h3 : L.length ≤ i * 210) (h4 : (PutB p).length ≤ 210) :
    PRel w g n ps (.slice A (L.length + m) c) s wr := by
  subst hb
  subst hm
  rw [← List.length_append] at hT ⊢
  exact ⟨i + 1, v, A, c, L ++ PutB p, hs, rfl, by omega, by omega, by rw [List.length_append]; omega, by show L ++ PutB p = _; rw [hS, hL], hT⟩

theorem puts_le {w : World} {a : Option Addr} {n c : Nat} {ps : List PutV} (h : IsPuts w a n c ps) : (putsL ps (min n 20)).length ≤ 140737488355328 := by
  have key : ∀ i, i ≤ 20 → i ≤ n → (putsL ps i).length ≤ i * 210 := by
    intro i
    induction i with
    | zero => intro _ _; simp [putsL]
    | succ i ih =>
      intro h1 h2
      have hl := h.1
      have hpi : ps[i]? = some ps[i] := List.getElem?_eq_getElem (show i < ps.length by omega)
      obtain ⟨x, _, _, hx⟩ := h.2.2.2 (by omega)
      have hv := (hx i _ hpi).2.2.2.2.2.2.1.2
      rw [putsL_succ hpi, List.length_append]
      have := ih (by omega) (by omega)
      have := PutB_length hv
      omega
  have := key (min n 20) (by omega) (by omega)
  omega
end Go.Proofs.Ytnhibnjgdkpomaa
