/-
  Plain facts: what is put is read again.
-/
import Derived.Test.YtnhibnjgdkpomaaRdFixed
import Derived.Test.YtnhibnjgdkpomaaPutsAll
namespace Go.Proofs.Ytnhibnjgdkpomaa
open Go.RowKit Plain

theorem rsGo_shortL : ∀ (n i v : Nat) (rest : List Nat), (shortL n).length + i ≤ 9 → (i = 0 ∨ 0 < n) → rsGo i v (shortL n ++ rest) = (v + n * 128 ^ i, i + (shortL n).length, 0) := by
  intro n
  induction n using Nat.strongRecOn with
  | ind n ih =>
    intro i v rest hl h0
    by_cases h : n < 128
    · rw [shortL_small h]
      simp only [List.cons_append, List.nil_append]
      rw [rsGo, if_pos ⟨h, by omega⟩, Nat.mod_eq_of_lt h]
      rfl
    · have hp := shortL_pos (n / 128)
      rw [shortL_big (by omega)] at hl ⊢
      simp only [List.length_cons] at hl
      rw [List.cons_append, rsGo, if_neg (by omega), if_neg (by omega), ih (n / 128) (by omega) (i + 1) _ rest (by omega) (by omega)]
      simp only [List.length_cons, Nat.pow_succ]
      refine Prod.ext ?_ (Prod.ext (by simp only; omega) rfl)
      simp only
      rw [show (128 + n % 128) % 128 = n % 128 by omega, Nat.add_assoc, Nat.mul_comm (128 ^ i) 128, ← Nat.mul_assoc, ← Nat.add_mul]
      rw [show n % 128 + n / 128 * 128 = n by omega]
theorem rs_shortL (n : Nat) (rest : List Nat) (h : n ≤ 9223372036854775807) : rs (shortL n ++ rest) = (n, (shortL n).length, 0) := by
  have := rsGo_shortL n 0 0 rest (by have := shortL_nine h; omega) (.inl rfl)
  simpa [rs] using this
theorem unzig_zig (a : Int) : unzig (zig a) = a := by
  unfold unzig zig
  split <;> split <;> omega
theorem zig_small (a : Int) : zig (clampZ a) ≤ 4611686018427387903 := by
  unfold zig clampZ
  split <;> omega
theorem TX_SB (s : ByteArray) : TX (SB s) = s := by
  cases s with
  | mk d =>
    unfold TX SB
    have e : UInt8.ofNat ∘ UInt8.toNat = id := funext fun b => by simp
    simp [e]
theorem SB_lt (s : ByteArray) : ∀ x ∈ SB s, x < 256 := by
  intro x hx
  obtain ⟨b, _, rfl⟩ := List.mem_map.1 hx
  exact b.toNat_lt
theorem PutB_lt (p : PutV) : ∀ x ∈ PutB p, x < 256 := by
  intro x hx
  unfold PutB at hx
  split at hx
  · exact fixedL_lt _ _ x hx
  split at hx
  · exact shortL_lt _ x hx
  split at hx
  · exact shortL_lt _ x hx
  split at hx
  · rcases List.mem_append.1 hx with h | h
    · exact shortL_lt _ x h
    · exact SB_lt _ x h
  · exact SB_lt _ x hx
theorem putsL_lt (ps : List PutV) (i : Nat) : ∀ x ∈ putsL ps i, x < 256 := by
  intro x hx
  obtain ⟨p, _, h⟩ := List.mem_flatMap.1 hx
  exact PutB_lt p x h
theorem putsL_more (ps : List PutV) (i d : Nat) : ∃ rest, putsL ps (i + d) = putsL ps i ++ rest := by
  unfold putsL
  rw [List.take_add, List.flatMap_append]
  exact ⟨_, rfl⟩
theorem putsL_split {ps : List PutV} {i N : Nat} {p : PutV} (h : ps[i]? = some p) (hN : i < N) : ∃ rest, putsL ps N = putsL ps i ++ (PutB p ++ rest) := by
  obtain ⟨rest, hr⟩ := putsL_more ps (i + 1) (N - (i + 1))
  rw [show i + 1 + (N - (i + 1)) = N by omega, putsL_succ h, List.append_assoc] at hr
  exact ⟨rest, hr⟩
theorem drop_putsL {L B rest BB : List Nat} (h : BB = L ++ (B ++ rest)) : BB.drop L.length = B ++ rest := by
  rw [h, List.drop_left]

theorem rd_end_ok (base g : Nat) (v : Value) (bs : List Nat) (at_ : Nat) (w : World) (hR : Rd w base g v bs at_ 0) (hlen : bs.length ≤ 140737488355328) (h : at_ = bs.length) :
    Calls Try.prog 19 #[.pointer (some ⟨g, 0, none⟩)] w fun en w' => en = .returned (.int .i64 0) ∧ ∃ k, w' = w.drewN k := by
  have HR := Lib.hid hR
  have H := Lib.hid h
  clear hR h
  go_enter Try.func19, Try.ntmps19
  go_wp2_with fail
  refine (rd_left base g v bs at_ 0 w HR.out hlen).mono ?_
  rintro en w1 ⟨rfl, k, rfl⟩
  have hc := (cell_at (HR.out.drewN k)).2.2.1
  have hle : ¬ 0 < (bs.length : Int) - (at_ : Int) := by have := H.out; omega
  go_wp2_with fail
  go_ret
  exact ⟨rfl, k, rfl⟩
end Go.Proofs.Ytnhibnjgdkpomaa
