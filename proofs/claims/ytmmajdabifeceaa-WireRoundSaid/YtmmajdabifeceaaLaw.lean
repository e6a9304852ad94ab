/-
  What layer 1's statements call besides: the first so many bytes, a new Reader.
-/
import Derived.Test.YtmmajdabifeceaaRdCalls
import Derived.Test.YtmmajdabifeceaaPureRs
import Derived.OpenShut
namespace Go.Proofs.Ytmmajdabifeceaa
open Go.RowKit Plain

theorem few_any (A : Option Addr) (n c : Nat) (m : Nat) (w : World) (hc : n ≤ c) (_hn : n ≤ 9223372036854775807) (hm : m ≤ 65536) :
    Calls Try.prog 13 #[.slice A n c, .int .i64 (m : Int)] w fun e w' => e = .returned (.slice A (min n m) c) ∧ w = w' := by
  by_cases h : m < n
  · rw [show min n m = m by omega]
    go_enter Try.func13, Try.ntmps13
    go_wp2_with fail
    go_ret
    exact ⟨rfl, rfl⟩
  · rw [show min n m = n by omega]
    go_enter Try.func13, Try.ntmps13
    go_wp2_with fail
    go_ret
    exact ⟨rfl, rfl⟩

theorem newReader_any (xs : List Nat) (n : Nat) (hl : xs.length = n) (w : World) (BB : Nat) (A : Option Addr) (c : Nat) (hr : Reads w BB 1 A n (BS xs)) (hn : n ≤ 140737488355328) :
    Calls Try.prog 14 #[.slice A n c] w fun e w' => ∃ v g, e = .returned (.pointer (some ⟨g, 0, none⟩)) ∧ Rd w' w.heap.size g v xs 0 0 ∧ w.heap.size ≤ g ∧ Below w.heap.size w w' := by
  subst hl
  go_enter Try.func14, Try.ntmps14
  go_wp2_with fail
  refine (own_any xs w BB A c hr hn).mono ?_
  rintro e w1 ⟨v, rfl, h1, h2⟩
  have hz := h2.size
  obtain ⟨A', c', rfl, _⟩ := reads_own h1
  have H1 := Lib.hid h1
  clear h1
  go_wp2_with fail
  go_ret
  exact ⟨_, _, rfl, ⟨Blk.new w1 _ _, H1.out.alloc _, Nat.zero_le _⟩, hz, h2.alloc hz _⟩

/-- A slice of integers that came in: nil, or a row of 'cap' cells, of which the first 'len' are its elements. -/
def IsRow (k : IntKind) (w : World) (a : Option Addr) (len cap : Nat) (zs : List Int) : Prop :=
  (a = none ∧ len = 0 ∧ cap = 0 ∧ zs = []) ∨
  ∃ x, a = some x ∧ len ≤ cap ∧ cap ≤ maxLen ∧ zs.length = cap ∧ (∀ i, i < zs.length → w.cell? (x.add i) = some (.int k (zs.getD i 0))) ∧ ∀ n ∈ zs, (Lit.int k n).wf = true

theorem wf_u8 {n : Int} (h : (Lit.int .u8 n).wf = true) : 0 ≤ n ∧ n < 256 := by
  have := bounds_u8 h
  omega

theorem row_reads {w : World} {a : Option Addr} {n c : Nat} {zs : List Int} (h : IsRow .u8 w a n c zs) :
    ∃ xs : List Nat, xs.length = n ∧ (∀ x ∈ xs, x < 256) ∧ Reads w w.heap.size 1 a n (BS xs) ∧ n ≤ c ∧ n ≤ 9223372036854775807 := by
  rcases h with ⟨rfl, rfl, rfl, rfl⟩ | ⟨x, rfl, hl, hm, hz, hcell, hwf⟩
  · exact ⟨[], rfl, by simp, Reads.none_, by omega, by omega⟩
  · refine ⟨(zs.take n).map Int.toNat, by simp; omega, ?_, ⟨by simp [BS]; omega, fun hn => ⟨x, rfl, ?_, fun j u hj => ?_⟩⟩, hl, by unfold maxLen at hm; omega⟩
    · intro y hy
      obtain ⟨z, hz', rfl⟩ := List.mem_map.1 hy
      have := wf_u8 (hwf z (List.mem_of_mem_take hz'))
      omega
    · have h0 := World.block_lt_of_cell? _ _ (hcell 0 (by omega))
      rwa [block_of_add] at h0
    · have hjn : j < n := by
        have := (List.getElem?_eq_some_iff.1 hj).1
        simp [BS] at this
        omega
      have hc := hcell j (by omega)
      rw [hc]
      have hjz : j < zs.length := by omega
      have hw := wf_u8 (hwf _ (List.getElem_mem hjz))
      simp [BS, B, hjn, hjz] at hj
      rw [← hj]
      simp [List.getD, hjz]
      omega

theorem Reads.take {w : World} {BB : Nat} {A : Option Addr} {n : Nat} {xs : List Nat} (h : Reads w BB 1 A n (BS xs)) {m : Nat} (hm : m ≤ n) : Reads w BB 1 A m (BS (xs.take m)) := by
  have hl := h.1
  simp [BS] at hl
  refine ⟨by simp [BS]; omega, fun h0 => ?_⟩
  obtain ⟨ad, e, hb, hc⟩ := h.2 (by omega)
  refine ⟨ad, e, hb, fun j u hj => hc j u ?_⟩
  have hjm : j < m := by
    have := (List.getElem?_eq_some_iff.1 hj).1
    simp [BS] at this
    omega
  rw [← hj]
  simp [BS, hjm]
end Go.Proofs.Ytmmajdabifeceaa
