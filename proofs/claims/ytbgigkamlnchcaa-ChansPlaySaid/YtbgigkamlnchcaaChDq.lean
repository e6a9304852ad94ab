
/-
  The law's does, any deed; what a step may come to; what holds of states at all times.
-/
import Derived.Test.YtbgigkamlnchcaaChDm
import Derived.Test.YtbgigkamlnchcaaChDn
import Derived.Test.YtbgigkamlnchcaaChDo
import Derived.Test.YtbgigkamlnchcaaChDp
set_option linter.unusedVariables false
set_option linter.unusedSimpArgs false
namespace Go.Proofs.Ytbgigkamlnchcaa
open Go.RowKit Plain

/-- What a deed may come to. -/
def StepV (r0 r1 r2 r3 : Int) (s s2 : Ck) : Prop :=
  s2 = s ∨ (∃ t, s2 = cancelV s t) ∨ (∃ m t v, m < 4 ∧ s2 = (sendV s m (roomV r0 r1 r2 r3 m) t v).1) ∨ (∃ m t, m < 4 ∧ s2 = (recvV s m t).1) ∨ ∃ (L : List Nat) (t : Int), L.Nodup ∧ (∀ m ∈ L, m < 4) ∧ L.length ≤ 5 ∧ s2 = (selectV s L t).1
theorem StepV.ok {r0 r1 r2 r3 : Int} {s s2 : Ck} (h : StepV r0 r1 r2 r3 s s2) {K : Nat} (O : CkOk K 4 s) : CkOk (K + 7) 4 s2 := by
  rcases h with rfl | ⟨t, rfl⟩ | ⟨m, t, v, hm, rfl⟩ | ⟨m, t, hm, rfl⟩ | ⟨L, t, h1, h2, h3, rfl⟩
  · exact O.mono (by omega)
  · exact (O.cancel t).mono (by omega)
  · exact (O.send hm _ t v).mono (by omega)
  · exact (O.recv hm t).mono (by omega)
  · exact (O.select h2 t).mono (by omega)
theorem does_any (w : World) (B : Nat) (h : ChH) (E : Nat → Prop) (z : ChZ) (s : Ck) (r0 r1 r2 r3 kind tv cv vv : Int) (A : Option Addr) (lk lc : Nat) (l : List Int) (hl : ChM w B h s) (hd : DocC w E z 4 s) {K : Nat} (O : CkOk K 4 s) (hK : K ≤ 40000) (hE : ∀ k, E k → k < w.heap.size → ¬ h.W k) (hrl : RN w (fun k => ¬ h.W k) A lc l) (hlk : l.length = lk) (hr0 : -9223372036854775808 ≤ r0 ∧ r0 ≤ 9223372036854775807) (hr1 : -9223372036854775808 ≤ r1 ∧ r1 ≤ 9223372036854775807) (hr2 : -9223372036854775808 ≤ r2 ∧ r2 ≤ 9223372036854775807) (hr3 : -9223372036854775808 ≤ r3 ∧ r3 ≤ 9223372036854775807) (ht1 : -9223372036854775808 ≤ tv) (ht2 : tv ≤ 9223372036854775807) (hc1 : -9223372036854775808 ≤ cv) (hc2 : cv ≤ 9223372036854775807) (hlb : ∀ x ∈ l, -9223372036854775808 ≤ x ∧ x ≤ 9223372036854775807) :
    Calls Try.prog 11 #[.pointer (some ⟨h.g, 0, none⟩), .agg (mkD z 4), .agg #[.int .i64 r0, .int .i64 r1, .int .i64 r2, .int .i64 r3], .agg #[.int .i64 kind, .int .i64 tv, .int .i64 cv, .int .i64 vv, .slice A lk lc]] w (fun e w' => ∃ s2, StepV r0 r1 r2 r3 s s2 ∧ DePost w B h E 4 s2 e w') := by
  have hor : ∀ (s2 : Ck), StepV r0 r1 r2 r3 s s2 → ∀ (e : Ending) (w' : World), (DePost w B h E 4 s e w' ∨ DePost w B h E 4 s2 e w') → ∃ s2, StepV r0 r1 r2 r3 s s2 ∧ DePost w B h E 4 s2 e w' := fun s2 h2 e w' h => by
    rcases h with h | h
    · exact ⟨s, .inl rfl, h⟩
    · exact ⟨s2, h2, h⟩
  have hcm := chV_lt cv
  by_cases h0 : kind < 0
  · exact (does_neg w B h E z 4 s r0 r1 r2 r3 tv cv vv A lk lc l hl hd O hK (by omega) (by omega) hE hrl hlk hr0 hr1 hr2 hr3 ht1 ht2 hc1 hc2 hlb kind h0 _ _ rfl rfl).mono (hor _ (.inr (.inl ⟨_, rfl⟩)))
  · by_cases h2 : 2 < kind
    · exact (does_big w B h E z 4 s r0 r1 r2 r3 tv cv vv A lk lc l hl hd O hK (by omega) (by omega) hE hrl hlk hr0 hr1 hr2 hr3 ht1 ht2 hc1 hc2 hlb kind h0 h2 _ _ rfl rfl).mono (hor _ (.inr (.inl ⟨_, rfl⟩)))
    · have h3 : kind = 0 ∨ kind = 1 ∨ kind = 2 := by omega
      rcases h3 with rfl | rfl | rfl
      · exact (does_send w B h E z 4 s r0 r1 r2 r3 tv cv vv A lk lc l hl hd O hK (by omega) (by omega) hE hrl hlk hr0 hr1 hr2 hr3 ht1 ht2 hc1 hc2 hlb _ _ _ rfl).mono (hor _ (.inr (.inr (.inl ⟨_, _, _, hcm, rfl⟩))))
      · exact (does_recv w B h E z 4 s r0 r1 r2 r3 tv cv vv A lk lc l hl hd O hK (by omega) (by omega) hE hrl hlk hr0 hr1 hr2 hr3 ht1 ht2 hc1 hc2 hlb _ _ _ _ rfl).mono (hor _ (.inr (.inr (.inr (.inl ⟨_, _, hcm, rfl⟩)))))
      · exact (does_select w B h E z 4 s r0 r1 r2 r3 tv cv vv A lk lc l hl hd O hK (by omega) (by omega) hE hrl hlk hr0 hr1 hr2 hr3 ht1 ht2 hc1 hc2 hlb _ _ _ _ _ rfl).mono (hor _ (.inr (.inr (.inr (.inr ⟨_, _, (choiceV_ok l).1, (choiceV_ok l).2.1, (choiceV_ok l).2.2.2, rfl⟩)))))
end Go.Proofs.Ytbgigkamlnchcaa
