
/-
  A Writer in memory, and what Raw does to it: the bytes come behind all that are there.
-/
import Derived.Test.YtmjbfobjndiecaaBytes
import Derived.Test.YtmjbfobjndiecaaPure
import Derived.WalkKit
import Derived.WalkSpells
import Derived.Outline
import Derived.Lib.Hide
namespace Go.Proofs.Ytmjbfobjndiecaa
open Go.RowKit

/-- The Writer whose struct lies in block g: its slice is v, which holds the bytes bs, in a row of its own. -/
def Wr (w : World) (base g : Nat) (v : Value) (bs : List Nat) : Prop := Blk w g 55 #[v] ∧ w.ownsRow base 5 1 v bs.length (BS bs)
/-- The blocks that are a Writer's own. -/
def OwnW (g : Nat) (v : Value) (i : Nat) : Prop := i = g ∨ v.ownBlock = some i
/-- From w to w' the Writer in block g came to hold bs, and nothing else of the old memory has turned. -/
def WStep (base g : Nat) (v : Value) (bs : List Nat) (w w' : World) : Prop :=
  ∃ v', Wr w' base g v' bs ∧ Fr (OwnW g v) w w' ∧ ∀ i, v'.ownBlock = some i → v.ownBlock = some i ∨ w.heap.size ≤ i

section
variable {w w' w'' : World} {base g : Nat} {v : Value} {bs cs : List Nat}
theorem Wr.lt (h : Wr w base g v bs) : g < w.heap.size := h.1.lt
theorem Wr.ne (h : Wr w base g v bs) : v.ownBlock ≠ some g := own_blk_ne h.2 h.1 (by decide)
theorem Wr.slice_ (h : Wr w base g v bs) : ∃ A c, v = .slice A bs.length c := by
  rcases h.2.2 with ⟨rfl, h0⟩ | ⟨k, cap, _, rfl, _⟩
  · exact ⟨none, 0, by rw [h0]⟩
  · exact ⟨_, cap, rfl⟩
theorem Wr.fr {S : Nat → Prop} (h : Wr w base g v bs) (hf : Fr S w w') (hS : ∀ i, OwnW g v i → ¬ S i) : Wr w' base g v bs :=
  ⟨hf.blk h.1 (hS g (.inl rfl)), hf.own h.2 fun i hi => hS i (.inr hi)⟩
theorem Wr.step (h : Wr w base g v bs) (hg : base ≤ g) (hf : Fr (OwnW g v) w w') : Below base w w' :=
  hf.below (by have := h.lt; omega) (by
    rintro i (rfl | hi)
    · exact hg
    · exact (h.2.lt i hi).1)
theorem Wr.below (h : Wr w base g v bs) (hb : Below w.heap.size w w') : Wr w' base g v bs :=
  h.fr (Fr.of_below hb) (by
    rintro i (rfl | hi)
    · have := h.lt; omega
    · have := (h.2.lt i hi).2; omega)
theorem Wr.drewN (h : Wr w base g v bs) (n : Nat) : Wr (w.drewN n) base g v bs := h
theorem Wr.new (w : World) (base : Nat) : Wr (w.alloc (.cells #[.slice none 0 0] 55)) base w.heap.size (.slice none 0 0) [] :=
  ⟨Blk.new w _ _, World.ownsRow_nil _ _ _ _⟩
theorem WStep.refl (h : Wr w base g v bs) : WStep base g v bs w w := ⟨v, h, Fr.refl _ _, fun _ hi => .inl hi⟩
theorem WStep.trans {v1 : Value} (hf : Fr (OwnW g v) w w') (ho : ∀ i, v1.ownBlock = some i → v.ownBlock = some i ∨ w.heap.size ≤ i) (h2 : WStep base g v1 cs w' w'') : WStep base g v cs w w'' := by
  obtain ⟨v2, a, b, c⟩ := h2
  refine ⟨v2, a, hf.trans b ?_, ?_⟩
  · rintro i hi (rfl | h)
    · exact .inl rfl
    · rcases ho i h with h | h
      · exact .inr h
      · omega
  · intro i hi
    rcases c i hi with h | h
    · exact ho i h
    · exact .inr (Nat.le_trans hf.size h)
theorem WStep.drew (h : WStep base g v bs w w') : WStep base g v bs w w'.drew := by
  obtain ⟨v', a, b, c⟩ := h
  exact ⟨v', a, b.drew, c⟩
end

set_option maxHeartbeats 400000 in
theorem raw_any (base g : Nat) (v : Value) (bs ns : List Nat) (w : World) (hW : Wr w base g v bs) (BB : Nat) (A : Option Addr) (c : Nat)
    (hr : Reads w BB 1 A ns.length (BS ns)) (hn : bs.length + ns.length ≤ 140737488355328) (hbase : base ≤ w.heap.size) :
    Calls Try.prog 69 #[.pointer (some ⟨g, 0, none⟩), .slice A ns.length c] w fun e w' => e = .returned (.tuple #[]) ∧ WStep base g v (bs ++ ns) w w' := by
  obtain ⟨i0, hi0, hz0, hz1, hz2⟩ := info_parts info_byte
  have hc : w.cell? ⟨g, 0, none⟩ = some v := by rw [hW.1.cell]; rfl
  have hf := hW.1.frozen 0
  have hne := Lib.hid hW.ne
  have HW := Lib.hid hW
  obtain ⟨_, hown⟩ := hW
  go_enter Try.func69, Try.ntmps69
  go_wp2_with (at_builtin; go_must (refine wpList_append_any _ rfl (.tmp 8) (.tmp 9) _ rfl base 5 i0 _ 1 1 Try.underlying29 hi0 hz0 hz1 hz2 rfl (by decide) v bs.length (BS bs) rfl hown BB A ns.length c (BS ns) rfl hr (BS_one _) ?c1 ?c2 hbase ?k))
  case c1 => unfold maxLen; omega
  case c2 => omega
  case k =>
  intro v' w1 hown1 hg1 hat1
  have e0 := (hg1.cell (a := ⟨g, 0, none⟩) hc (fun h => hne.out h.symm))
  have e1 : w1.frozen? ⟨g, 0, none⟩ = false := by rw [World.frozen?_of_block (hg1.block g HW.out.lt (fun h => hne.out h.symm))]; exact hf
  obtain ⟨A', c', rfl⟩ : ∃ A' c', v' = .slice A' (bs.length + ns.length) c' := by
    rcases hown1.2 with ⟨rfl, h0⟩ | ⟨k, cap, _, rfl, _⟩
    · exact ⟨none, 0, by rw [h0]⟩
    · exact ⟨_, cap, rfl⟩
  have HO := Lib.hid hown1; have HG := Lib.hid hg1; have HA := Lib.hid hat1
  clear hown1 hg1 hat1
  go_wp2_with fail
  go_end0
  have hb1 : Blk w1 g 55 #[v] := HW.out.1.grown HG.out (fun h => hne.out h.symm)
  refine ⟨rfl, _, ⟨hb1.set_ 0 _, ?_⟩, ?_, ?_⟩
  · rw [← BS_append, List.length_append]
    exact (Fr.refl (fun i => i = g) w1 |>.setCell (p := ⟨g, 0, none⟩) (.inl rfl) _).own HO.out (fun i hi he => by
      subst he
      exact own_blk_ne HO.out hb1 (by decide) hi)
  · exact ((Fr.of_grown HG.out).mono (fun i _ h => .inr h)).setCell (.inl (.inl rfl)) _
  · intro i hi
    rcases HA.out with h | h
    · exact .inl (h ▸ hi)
    · rw [h] at hi
      injection hi with hi
      exact .inr (by omega)

theorem raw_at (base g : Nat) (v : Value) (bs ns : List Nat) (n : Nat) (hl : ns.length = n) (w : World) (hW : Wr w base g v bs) (BB : Nat) (A : Option Addr) (c : Nat)
    (hr : Reads w BB 1 A n (BS ns)) (hn : bs.length + n ≤ 140737488355328) (hbase : base ≤ w.heap.size) :
    Calls Try.prog 69 #[.pointer (some ⟨g, 0, none⟩), .slice A n c] w fun e w' => e = .returned (.tuple #[]) ∧ WStep base g v (bs ++ ns) w w' := by
  subst hl
  exact raw_any base g v bs ns w hW BB A c hr hn hbase
end Go.Proofs.Ytmjbfobjndiecaa
