
/-
  The law's does, of both, any deed.
-/
import Derived.Test.YtikelkfinjcgaaaLkDo
set_option linter.unusedVariables false
set_option linter.unusedSimpArgs false
namespace Go.Proofs.Ytikelkfinjcgaaa
open Go.RowKit Plain

theorem Plain.LkOk.mut {K : Nat} {s : Lk} (h : LkOk K s) {p q : Nat} (hp : p = s.own.length) (hq : q = s.wq.length) (h0 : 0 < p) (kind x t : Int) (ht0 : 0 ≤ t) (ht1 : t ≤ 1000000) (hT : tot s.lq + tot s.wq + tot s.dq + 1 ≤ K) : LkOk K (mutV s p q kind x t) := by
  have hm := aroundV_lt (n := x) (show (0 : Int) < (p : Int) by omega)
  have hm1 : (aroundV x p).toNat < s.own.length := by omega
  have hc : 0 < q → (aroundV x q).toNat < s.wq.length ∧ (aroundV x q).toNat % p < s.own.length := fun h => by
    have := aroundV_lt (n := x) (show (0 : Int) < (q : Int) by omega)
    have := Nat.mod_lt (aroundV x q).toNat h0
    omega
  unfold mutV
  split
  · exact h.lock hm1 ht0 ht1 hT
  · split
    · exact h.unlock hm1 t
    · split
      · exact h
      · have hc := hc (by omega)
        split
        · exact h.wait hc.1 hc.2 ht0 ht1 hT
        · split
          · exact h.signal hc.1 hc.2
          · exact LkOk.broad _ _ h hc.1 hc.2 rfl
theorem does_any (kind : Int) (w : World) (B : Nat) (h : LkH) (E : Nat → Prop) (z : LkQ) (p q n : Nat) (s : Lk) (tv x : Int) (hl : LkM w B h s) (hd : DocC w E z p q n s) {K : Nat} (O : LkOk K s) (hK : K ≤ 100000) (hE : ∀ k, E k → k < w.heap.size → ¬ h.W k) (hx1 : -9223372036854775808 ≤ x) (hx2 : x ≤ 9223372036854775807) (ht1 : -9223372036854775808 ≤ tv) (ht2 : tv ≤ 9223372036854775807) (hK1 : K + 1 ≤ 100000) (hp2 : p ≤ 8) (hq2 : q ≤ 8) (hn2 : n ≤ 8) :
    Calls Try.prog 9 #[.pointer (some ⟨h.g, 0, none⟩), .agg (mkC z p q n), .agg #[.int .i64 kind, .int .i64 tv, .int .i64 x]] w (fun e w' => ∃ s2, LkOk (K + 1) s2 ∧ MuPost w B h E p q n s2 e w') := by
  have O1 := O.mono (Nat.le_succ K)
  have hT : tot s.lq + tot s.wq + tot s.dq + 1 ≤ K + 1 := by have := O.tt; omega
  have htt := aroundV_lt (n := tv) (show (0 : Int) < 8 by omega)
  have hor : ∀ (s2 : Lk), LkOk (K + 1) s2 → ∀ (e : Ending) (w' : World), (MuPost w B h E p q n s e w' ∨ MuPost w B h E p q n s2 e w') → ∃ s2, LkOk (K + 1) s2 ∧ MuPost w B h E p q n s2 e w' := fun s2 h2 e w' h => by
    rcases h with h | h
    · exact ⟨s, O1, h⟩
    · exact ⟨s2, h2, h⟩
  by_cases hk : 0 ≤ kind ∧ kind ≤ 4
  · rcases Nat.eq_zero_or_pos p with hp | hp
    · subst hp
      exact (does_p0 w B h E z q n s tv x hl hd O1 hK1 hE hx1 hx2 ht1 ht2 kind hk.1 hk.2).mono (fun e w' h => hor s O1 e w' h)
    · exact (does_mut w B h E z p q n s tv x hl hd O1 hK1 hE hx1 hx2 ht1 ht2 kind hk.1 hk.2 hp hp2 hq2 hT _ rfl).mono (fun e w' h => hor _ (O1.mut hd.lo.symm hd.lw.symm hp kind x _ htt.1 (by omega) hT) e w' h)
  · rcases Nat.eq_zero_or_pos n with hn | hn
    · subst hn
      by_cases hk0 : 0 ≤ kind
      · exact (does_n0big w B h E z p q s tv x hl hd O1 hK1 hE hx1 hx2 ht1 ht2 kind hk0 (by omega)).mono (fun e w' h => hor s O1 e w' h)
      · exact (does_n0neg w B h E z p q s tv x hl hd O1 hK1 hE hx1 hx2 ht1 ht2 kind (by omega) hk0).mono (fun e w' h => hor s O1 e w' h)
    · have hx := aroundV_lt (n := x) (show (0 : Int) < (n : Int) by omega)
      obtain ⟨i, hi⟩ : ∃ i : Nat, aroundV x n = (i : Int) := ⟨(aroundV x n).toNat, by omega⟩
      have hil : i < s.cnt.length := by have := hd.ln; omega
      have hc1 : gn s.cnt i + 1 ≤ ((K + 1 : Nat) : Int) := by have := (O.cnt _ (gn_mem hil)).2; omega
      by_cases hk5 : kind = 5
      · subst hk5
        exact (does_down w B h E z p q n s tv x hl hd O1 hK1 hE hx1 hx2 ht1 ht2 i hn hn2 hi _ _ rfl).mono (fun e w' h => hor _ (O1.down hil htt.1 (by omega) hT) e w' h)
      · by_cases hk0 : 0 ≤ kind
        · exact (does_upbig w B h E z p q n s tv x hl hd O1 hK1 hE hx1 hx2 ht1 ht2 kind hk0 (by omega) hk5 i hn hn2 hi _ _ rfl).mono (fun e w' h => hor _ (O1.up hil hc1) e w' h)
        · exact (does_upneg w B h E z p q n s tv x hl hd O1 hK1 hE hx1 hx2 ht1 ht2 kind hk0 hk5 i hn hn2 hi _ _ rfl).mono (fun e w' h => hor _ (O1.up hil hc1) e w' h)
end Go.Proofs.Ytikelkfinjcgaaa
