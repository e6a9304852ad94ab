/-
  Whatever is asked, of any state: both tell the same, and stand alike.
-/
import Derived.Test.YtnhibnjgdkpomaaPairs
namespace Go.Proofs.Ytnhibnjgdkpomaa
open Go.RowKit Plain
set_option linter.unusedVariables false
set_option linter.unusedSimpArgs false

theorem ask_any (bs : List Nat) (c at_ : Nat) (A : Option Addr) (e : Int) (kind pn pv : Int) (ps : ByteArray) (base g : Nat) (v : Value) (w : World) (BB : Nat) (hx : ∀ x ∈ bs, x < 256) (hnc : bs.length ≤ c) (hn : bs.length ≤ 140737488355328)
    (hr : Reads w BB 1 A bs.length (BS bs)) (hB : BB ≤ w.heap.size) (hBg : BB ≤ g) (hR : Rd w base g v bs at_ e) (hn1 : -9223372036854775808 ≤ pn) (hn2 : pn ≤ 9223372036854775807) :
    Calls Try.prog 15 #[.pointer (some ⟨g, 0, none⟩), .agg #[.slice A bs.length c, .int .i64 (at_ : Int), .int .i64 e], .agg #[.int .i64 kind, .int .i64 pn, .int .i64 pv, .string ps]] w (fun en w' => ∃ (at' : Nat) (e' : Int), Asked A bs.length c base g v bs at' e' w en w') := by
  have hat := hR.2.2
  by_cases k0 : kind = 0
  · subst k0
    obtain ⟨at', e', x, h1, h2⟩ := tells_fixed bs c at_ A e base g v BB hx hnc hn hat (wideOf pn) (wideOf_wide pn)
    exact (ask_fixed bs _ c at_ at' A e e' pn pv ps base g v w BB x hr hB hBg hR hn1 hn2 h1 h2).mono fun en w' h => ⟨at', e', h⟩
  by_cases k1 : kind = 1
  · subst k1
    obtain ⟨at', e', x, h1, h2⟩ := tells_short bs c at_ A e base g v BB hx hnc hn hat
    exact (ask_short bs _ c at_ at' A e e' pn pv ps base g v w BB x hr hB hBg hR h1 h2).mono fun en w' h => ⟨at', e', h⟩
  by_cases k2 : kind = 2
  · subst k2
    obtain ⟨at', e', x, h1, h2⟩ := tells_signed bs c at_ A e base g v BB hx hnc hn hat
    exact (ask_signed bs _ c at_ at' A e e' pn pv ps base g v w BB x hr hB hBg hR h1 h2).mono fun en w' h => ⟨at', e', h⟩
  by_cases k3 : kind = 3
  · subst k3
    obtain ⟨at', e', x, h1, h2⟩ := tells_text bs c at_ A e base g v BB hx hnc hn hat
    exact (ask_text bs _ c at_ at' A e e' pn pv ps base g v w BB x hr hB hBg hR h1 h2).mono fun en w' h => ⟨at', e', h⟩
  by_cases k4 : kind = 4
  · subst k4
    obtain ⟨at', e', x, h1, h2⟩ := tells_list bs c at_ A e base g v BB hx hnc hn hat pv
    exact (ask_list bs _ c at_ at' A e e' pn pv ps base g v w BB x hr hB hBg hR h1 h2).mono fun en w' h => ⟨at', e', h⟩
  by_cases k5 : kind = 5
  · subst k5
    exact (ask_fail _ c at_ A bs e pn pv ps base g v w hR).mono fun en w' h => ⟨_, _, h⟩
  obtain ⟨at', e', ys, hl, h1, h2⟩ := tells_raw bs c at_ A e base g v BB hnc hn hat pn
  exact (ask_raw bs ys _ c at_ at' A e e' kind pn pv ps base g v w BB (by simpa using k0) (by simpa using k1) (by simpa using k2) (by simpa using k3) (by simpa using k4) (by simpa using k5) hl hr hB hBg hR h1 h2).mono fun en w' h => ⟨at', e', h⟩
end Go.Proofs.Ytnhibnjgdkpomaa
