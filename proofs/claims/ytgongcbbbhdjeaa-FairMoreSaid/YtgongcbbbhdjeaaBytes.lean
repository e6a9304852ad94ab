
/-
  Bytes in memory: a row of bytes as a list of numbers, what came in, what was just made. No function of the landed code is spoken of here.
-/
import Derived.Test.YtgongcbbbhdjeaaWords
import Derived.Test.YtgongcbbbhdjeaaChecked
import Derived.WalkKit
import Derived.WalkSpells
import Derived.Outline
import Derived.Lib.Hide
import Derived.OpenShut
import Derived.Laws.IdiomStrings
namespace Go.Proofs.Ytgongcbbbhdjeaa
open Go.RowKit

/-- A byte as a cell. -/
def B (n : Nat) : Value := .int .u8 (n : Int)
def BS (l : List Nat) : List Value := l.map B
theorem BS_length (l : List Nat) : (BS l).length = l.length := by simp [BS]
theorem BS_append (l m : List Nat) : BS l ++ BS m = BS (l ++ m) := by simp [BS]
theorem BS_one (l : List Nat) : ∀ u ∈ BS l, u.oneCell' = true := by
  intro u hu
  obtain ⟨n, _, rfl⟩ := List.mem_map.1 hu
  rfl

theorem info_byte : (Try.prog.info? 5).map (fun i => (i.zero, i.size, i.bytes)) = some (some (.int .u8 0), 1, 1) := by kernel_rfl

theorem reads_one (w : World) (x : Nat) (t : TypeId) : Reads (w.alloc (.cells #[.int .u8 (x : Int)] t)) (w.heap.size + 1) 1 (some ⟨w.heap.size, 0, none⟩) 1 (BS [x]) :=
  ⟨by simp [BS], fun _ => ⟨_, rfl, by simp, fun j u hj => by
    match j, hj with
    | 0, hj => simp [BS, B] at hj; subst hj; simp [Addr.add]⟩⟩

/-- Three bytes that were just laid. -/
theorem reads_three (w : World) (x y z : Nat) (t : TypeId) : Reads (w.alloc (.cells #[.int .u8 (x : Int), .int .u8 (y : Int), .int .u8 (z : Int)] t)) (w.heap.size + 1) 1 (some ⟨w.heap.size, 0, none⟩) 3 (BS [x, y, z]) :=
  ⟨by simp [BS], fun _ => ⟨_, rfl, by simp, fun j u hj => by
    match j, hj with
    | 0, hj => simp [BS, B] at hj; subst hj; simp [Addr.add]
    | 1, hj => simp [BS, B] at hj; subst hj; simp [Addr.add]
    | 2, hj => simp [BS, B] at hj; subst hj; simp [Addr.add]⟩⟩

/-- What Bytes told reads as its bytes. -/
theorem reads_own {w : World} {base : Nat} {v : Value} {n : Nat} {xs : List Value} (h : w.ownsRow base 5 1 v n xs) : ∃ A c, v = .slice A n c ∧ Reads w w.heap.size 1 A n xs := by
  rcases h.2 with ⟨rfl, rfl⟩ | ⟨k, cap, _, rfl, _⟩
  · exact ⟨none, 0, rfl, Reads.of_own h⟩
  · exact ⟨_, cap, rfl, Reads.of_own h⟩

/-- A slice of the call's own that holds the bytes l, and nothing else of the old memory has turned. -/
def Made (base : Nat) (l : List Nat) (v : Value) (w w' : World) : Prop := w'.ownsRow base 5 1 v l.length (BS l) ∧ Below base w w'

/-- A slice of integers that came in: nil, or a row of 'cap' cells, of which the first 'len' are its elements. -/
def IsRow (k : IntKind) (w : World) (a : Option Addr) (len cap : Nat) (zs : List Int) : Prop :=
  (a = none ∧ len = 0 ∧ cap = 0 ∧ zs = []) ∨
  ∃ x, a = some x ∧ len ≤ cap ∧ cap ≤ maxLen ∧ zs.length = cap ∧ (∀ i, i < zs.length → w.cell? (x.add i) = some (.int k (zs.getD i 0))) ∧ ∀ n ∈ zs, (Lit.int k n).wf = true

theorem wf_u8 {n : Int} (h : (Lit.int .u8 n).wf = true) : 0 ≤ n ∧ n < 256 := by
  have := bounds_u8 h
  omega

theorem row_reads {w : World} {a : Option Addr} {n c : Nat} {zs : List Int} (h : IsRow .u8 w a n c zs) :
    ∃ xs : List Nat, xs.length = n ∧ (∀ x ∈ xs, x < 256) ∧ Reads w w.heap.size 1 a n (BS xs) ∧ n ≤ c ∧ n ≤ 9223372036854775807 := by
  rcases h with ⟨rfl, rfl, rfl, rfl⟩ | ⟨x, rfl, hl, hm, hz, hcell, hwf⟩
  · exact ⟨[], rfl, by simp, Reads.none_, by omega, by omega⟩
  · refine ⟨(zs.take n).map Int.toNat, by simp; omega, ?_, ⟨by simp [BS]; omega, fun hn => ⟨x, rfl, ?_, fun j u hj => ?_⟩⟩, hl, by unfold maxLen at hm; omega⟩
    · intro y hy
      obtain ⟨z, hz', rfl⟩ := List.mem_map.1 hy
      have := wf_u8 (hwf z (List.mem_of_mem_take hz'))
      omega
    · have h0 := World.block_lt_of_cell? _ _ (hcell 0 (by omega))
      rwa [block_of_add] at h0
    · have hjn : j < n := by
        have := (List.getElem?_eq_some_iff.1 hj).1
        simp [BS] at this
        omega
      have hc := hcell j (by omega)
      rw [hc]
      have hjz : j < zs.length := by omega
      have hw := wf_u8 (hwf _ (List.getElem_mem hjz))
      simp [BS, B, hjn, hjz] at hj
      rw [← hj]
      simp [List.getD, hjz]
      omega

theorem Reads.take {w : World} {BB : Nat} {A : Option Addr} {n : Nat} {xs : List Nat} (h : Reads w BB 1 A n (BS xs)) {m : Nat} (hm : m ≤ n) : Reads w BB 1 A m (BS (xs.take m)) := by
  have hl := h.1
  simp [BS] at hl
  refine ⟨by simp [BS]; omega, fun h0 => ?_⟩
  obtain ⟨ad, e, hb, hc⟩ := h.2 (by omega)
  refine ⟨ad, e, hb, fun j u hj => hc j u ?_⟩
  have hjm : j < m := by
    have := (List.getElem?_eq_some_iff.1 hj).1
    simp [BS] at this
    omega
  rw [← hj]
  simp [BS, hjm]

/-- A string's bytes as numbers. -/
def SB (s : ByteArray) : List Nat := s.data.toList.map UInt8.toNat
theorem SB_length (s : ByteArray) : (SB s).length = s.size := by simp [SB]

theorem reads_string (w : World) (s : ByteArray) (t : TypeId) (n : Nat) (fz : Nat × Nat) : Reads (w.alloc (.cells (bytesRow s n) t fz)) (w.heap.size + 1) 1 (some ⟨w.heap.size, 0, none⟩) s.size (BS (SB s)) := by
  refine ⟨by simp [BS, SB], fun _ => ⟨_, rfl, by simp, fun j u hj => ?_⟩⟩
  have hjl : j < s.data.size := by
    have := (List.getElem?_eq_some_iff.1 hj).1
    simpa [BS, SB] using this
  simp [BS, SB, B, List.getElem?_map] at hj
  obtain ⟨x, hx, rfl⟩ := hj
  have hb := cell_of_row (w.alloc (.cells (bytesRow s n) t fz)) w.heap.size j (bytesRow s n) t fz (heap_alloc_new w _)
  rw [show (⟨w.heap.size, 0, none⟩ : Addr).add j = ⟨w.heap.size, j, none⟩ by simp [Addr.add]; omega, hb]
  simp [bytesRow, Array.getElem?_append, hx]
  intro h
  exact absurd hjl (by simpa using h)
end Go.Proofs.Ytgongcbbbhdjeaa
