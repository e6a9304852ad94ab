
/-
  Deques in memory: side by side in one block, their slots in another one. No function of the landed code is spoken of here.
-/
import Derived.Test.YtipflplilkecjaaRgOwn
set_option linter.unusedVariables false
namespace Go.Proofs.Ytipflplilkecjaa
open Go.RowKit Plain

namespace Plain
/-- A row of which the m things behind the place a stand one place ahead. -/
def shiftL {α : Type} (zs : List α) (a m : Nat) : List α := zs.take a ++ (zs.drop (a + 1)).take m ++ zs.drop (a + m)
theorem shiftL_length {α : Type} (zs : List α) (a m : Nat) (h : a + m < zs.length) : (shiftL zs a m).length = zs.length := by
  unfold shiftL
  simp
  omega
theorem shiftL_at {α : Type} (zs : List α) (a m j : Nat) (h : a + m < zs.length) : (shiftL zs a m)[j]? = if a ≤ j ∧ j < a + m then zs[j + 1]? else zs[j]? := by
  unfold shiftL
  by_cases h1 : j < a
  · rw [if_neg (by omega), List.append_assoc, List.getElem?_append_left (by simp; omega), List.getElem?_take_of_lt h1]
  · by_cases h2 : j < a + m
    · rw [if_pos ⟨by omega, h2⟩, List.getElem?_append_left (by simp; omega), List.getElem?_append_right (by simp; omega), List.getElem?_take_of_lt (by simp; omega), List.getElem?_drop]
      congr 1
      simp
      omega
    · rw [if_neg (by omega), List.getElem?_append_right (by simp; omega), List.getElem?_drop]
      congr 1
      simp
      omega
theorem eraseIdx_at {α : Type} (l : List α) (k j : Nat) : (l.eraseIdx k)[j]? = if j < k then l[j]? else l[j + 1]? := List.getElem?_eraseIdx
end Plain

/-- Deques side by side: in block d, their slots in block s, each with so much room. -/
structure Dqs (w : World) (d s room : Nat) (L : List (List Int)) : Prop where
  box : ∃ cs : List Value, cs.length = L.length * 2 ∧ Blk w d 74 cs.toArray ∧ ∀ i l, L[i]? = some l → cs[i * 2]? = some (.slice (some ⟨s, i * room, none⟩) l.length room) ∧ cs[i * 2 + 1]? = some (.int .i64 (room : Int))
  row : ∃ zs : List Int, zs.length = L.length * room ∧ Blk w s 3 (zs.map EnI).toArray ∧ ∀ i l, L[i]? = some l → ∀ j x, l[j]? = some x → zs[i * room + j]? = some x
  len : ∀ (i : Nat) (l : List Int), L[i]? = some l → l.length ≤ room
  r1 : 1 ≤ room
  r8 : room ≤ 8
  cnt : L.length ≤ 64
  ne : d ≠ s

theorem slot_lt {n room i j : Nat} (hi : i < n) (hj : j < room) : i * room + j < n * room := by
  have : (i + 1) * room ≤ n * room := Nat.mul_le_mul_right _ hi
  rw [Nat.add_mul] at this
  omega
theorem slot_ne {room i i' j j' : Nat} (hj : j < room) (hj' : j' < room) (h : i * room + j = i' * room + j') : i = i' := by
  have h1 : (i * room + j) / room = i := by rw [Nat.mul_comm, Nat.mul_add_div (by omega), Nat.div_eq_of_lt hj, Nat.add_zero]
  have h2 : (i' * room + j') / room = i' := by rw [Nat.mul_comm, Nat.mul_add_div (by omega), Nat.div_eq_of_lt hj', Nat.add_zero]
  rw [← h1, ← h2, h]
section
variable {w w' : World} {d s room : Nat} {L : List (List Int)}
theorem Dqs.fr {S : Nat → Prop} (h : Dqs w d s room L) (hf : Fr S w w') (hd : ¬ S d) (hs : ¬ S s) : Dqs w' d s room L := by
  obtain ⟨⟨cs, a1, a2, a3⟩, ⟨zs, b1, b2, b3⟩, h3, h4, h5, h6, h7⟩ := h
  exact ⟨⟨cs, a1, hf.blk a2 hd, a3⟩, ⟨zs, b1, hf.blk b2 hs, b3⟩, h3, h4, h5, h6, h7⟩
theorem Dqs.lt (h : Dqs w d s room L) : d < w.heap.size ∧ s < w.heap.size := by
  obtain ⟨⟨cs, a1, a2, a3⟩, ⟨zs, b1, b2, b3⟩, _⟩ := h
  exact ⟨a2.lt, b2.lt⟩
theorem Dqs.below {B : Nat} (h : Dqs w d s room L) (hb : Below B w w') (hd : d < B) (hs : s < B) : Dqs w' d s room L :=
  h.fr (Fr.of_below hb) (by omega) (by omega)
theorem Dqs.drewN (h : Dqs w d s room L) (n : Nat) : Dqs (w.drewN n) d s room L := ⟨h.box, h.row, h.len, h.r1, h.r8, h.cnt, h.ne⟩
theorem Dqs.alloc (h : Dqs w d s room L) (o : Obj) : Dqs (w.alloc o) d s room L := h.below ((Below.refl _ _).alloc (Nat.le_refl _) o) h.lt.1 h.lt.2
theorem Dqs.cells (h : Dqs w d s room L) {i : Nat} {l : List Int} (hi : L[i]? = some l) :
    w.cell? ⟨d, i * 2, none⟩ = some (.slice (some ⟨s, i * room, none⟩) l.length room) ∧ w.cell? ⟨d, i * 2 + 1, none⟩ = some (.int .i64 (room : Int)) ∧ (∀ j, w.frozen? ⟨d, j, none⟩ = false) := by
  obtain ⟨cs, a1, a2, a3⟩ := h.box
  obtain ⟨c1, c2⟩ := a3 i l hi
  refine ⟨?_, ?_, fun j => a2.frozen j⟩
  · rw [a2.cell]; simpa using c1
  · rw [a2.cell]; simpa using c2
/-- What a deque has, read. -/
theorem Dqs.reads (h : Dqs w d s room L) {i : Nat} {l : List Int} (hi : L[i]? = some l) : Reads w w.heap.size 1 (some ⟨s, i * room, none⟩) l.length (l.map EnI) := by
  obtain ⟨zs, b1, b2, b3⟩ := h.row
  refine ⟨by simp, fun _ => ⟨_, rfl, b2.lt, fun j u hj => ?_⟩⟩
  rw [List.getElem?_map] at hj
  obtain ⟨x, hx, rfl⟩ := Option.map_eq_some_iff.1 hj
  rw [Addr.add_lit, b2.cell]
  have := b3 i l hi j x hx
  simp [this]
/-- One deque is another one: its box, and its slots, in a world that turned these alone. -/
theorem Dqs.put (h : Dqs w d s room L) {i : Nat} {l l' : List Int} (hi : L[i]? = some l) (hl' : l'.length ≤ room) {w' : World}
    (hb : ∀ cs : List Value, Blk w d 74 cs.toArray → Blk w' d 74 (cs.set (i * 2) (.slice (some ⟨s, i * room, none⟩) l'.length room)).toArray)
    (hlen : ∀ zs : List Int, zs.length = L.length * room → Blk w s 3 (zs.map EnI).toArray → ∃ zs' : List Int, zs'.length = zs.length ∧ Blk w' s 3 (zs'.map EnI).toArray ∧ (∀ j, j < i * room ∨ i * room + room ≤ j → zs'[j]? = zs[j]?) ∧ ∀ j x, l'[j]? = some x → (∀ k y, l[k]? = some y → zs[i * room + k]? = some y) → zs'[i * room + j]? = some x) :
    Dqs w' d s room (L.set i l') := by
  obtain ⟨⟨cs, a1, a2, a3⟩, ⟨zs, b1, b2, b3⟩, h3, h4, h5, h6, h7⟩ := h
  obtain ⟨zs', z1, z2, z3, z4⟩ := hlen zs b1 b2
  have hiL : i < L.length := (List.getElem?_eq_some_iff.1 hi).1
  refine ⟨⟨_, by simpa using a1, hb cs a2, fun i' l1 h1 => ?_⟩, ⟨zs', by rw [z1, b1]; simp, z2, fun i' l1 h1 j x hx => ?_⟩, fun i' l1 h1 => ?_, h4, h5, by simpa using h6, h7⟩
  · by_cases he : i' = i
    · subst he
      rw [List.getElem?_set_self hiL] at h1
      injection h1 with h1
      subst h1
      rw [List.getElem?_set_self (by omega), List.getElem?_set_ne (by omega)]
      exact ⟨rfl, (a3 i' l hi).2⟩
    · rw [List.getElem?_set_ne (Ne.symm he)] at h1
      rw [List.getElem?_set_ne (by omega), List.getElem?_set_ne (by omega)]
      exact a3 i' l1 h1
  · by_cases he : i' = i
    · subst he
      rw [List.getElem?_set_self hiL] at h1
      injection h1 with h1
      subst h1
      exact z4 j x hx (b3 i' l hi)
    · rw [List.getElem?_set_ne (Ne.symm he)] at h1
      have hj : j < l1.length := (List.getElem?_eq_some_iff.1 hx).1
      have hr := h3 i' l1 h1
      rw [z3 _ ?_]
      · exact b3 i' l1 h1 j x hx
      · rcases Nat.lt_or_ge i' i with h8 | h8
        · left
          have : (i' + 1) * room ≤ i * room := Nat.mul_le_mul_right _ h8
          rw [Nat.add_mul] at this
          omega
        · right
          have : (i + 1) * room ≤ i' * room := Nat.mul_le_mul_right _ (by omega)
          rw [Nat.add_mul] at this
          omega
  · by_cases he : i' = i
    · subst he
      rw [List.getElem?_set_self hiL] at h1
      injection h1 with h1
      subst h1
      exact hl'
    · rw [List.getElem?_set_ne (Ne.symm he)] at h1
      exact h3 i' l1 h1
end
end Go.Proofs.Ytipflplilkecjaa
