
/-
  A Reader's call, whatever its closure reads: where the place and the error are behind it, and what the closure's variable holds.
-/
import Derived.Test.YtoahomhnjmdbkaaRdShort
namespace Go.Proofs.Ytoahomhnjmdbkaa
open Go.RowKit Plain

/-- The place and the error behind a call whose closure takes N bytes, with the error E. -/
def stepR (at_ : Nat) (e : Int) (N E : Nat) : Nat × Int := if e = 0 then (if E = 0 then (at_ + N, 0) else (at_, (E : Int))) else (at_, e)

/-- What is known behind a Reader's call. -/
def RdStep (base g : Nat) (v : Value) (bs : List Nat) (p : Nat × Int) (w w' : World) : Prop := Rd w' base g v bs p.1 p.2 ∧ Fr (fun i => i = g) w w'

theorem RdStep.lt {base g : Nat} {v : Value} {bs : List Nat} {p : Nat × Int} {w w' : World} (h : RdStep base g v bs p w w') : w.heap.size ≤ w'.heap.size := h.2.size

/-- A Reader's call whose closure leaves in its variable something of which PV holds. -/
theorem read_withP (base g cv : Nat) (v v0 : Value) (PV : Value → World → Prop) (T : TypeId) (bs : List Nat) (at_ : Nat) (e : Int) (w : World) (hR : Rd w base g v bs at_ e) (hcv : Blk w cv T #[v0]) (hT : 5 ≠ T) (hT' : 110 ≠ T)
    (f : FuncId) (caps : Array Value) (hent : ∀ (args : Array Value) (W : World), (callFunc f args).run Try.prog W = .ok (.enter f args) W) (hlen : bs.length ≤ 140737488355328) (N E : Nat)
    (hPV : ∀ val w1 (u : Addr) x, u.block = g → PV val w1 → PV val (w1.setCell u x))
    (hcl : e = 0 → ∀ (A : Option Addr) (n c : Nat), n = bs.length - at_ → Reads w.drew w.heap.size 1 A n (BS (bs.drop at_)) → n ≤ c →
      Calls Try.prog f (#[.slice A n c] ++ caps) w.drew fun en w1 => en = .returned (.tuple #[.int .i64 (N : Int), .int .i64 (E : Int)]) ∧ ∃ val, PV val w1 ∧ Blk w1 cv T #[val] ∧ Fr (fun i => i = cv) w w1)
    (hN : at_ + N ≤ bs.length) :
    Calls Try.prog 81 #[.pointer (some ⟨g, 0, none⟩), .func (.func f) #[] caps] w fun en w' => en = .returned (.tuple #[]) ∧
      Rd w' base g v bs (stepR at_ e N E).1 (stepR at_ e N E).2 ∧ Fr (fun i => i = g ∨ i = cv) w w' ∧ ∃ val, Blk w' cv T #[val] ∧ ((e = 0 ∧ PV val w') ∨ (e ≠ 0 ∧ val = v0)) := by
  have hgc : g ≠ cv := Blk.ne_ hR.1 hcv hT'
  have hvc : v.ownBlock ≠ some cv := own_blk_ne hR.2.1 hcv hT
  by_cases he : e = 0
  · subst he
    have hblk : ∀ w1, Fr (fun i => i = cv) w w1 → Blk w1 g 110 #[v, .int .i64 (at_ : Int), .int .i64 0] := fun w1 hf => hf.blk hR.1 hgc
    refine (read_go base g v bs at_ w hR f caps (fun n er w1 => n = (N : Int) ∧ er = (E : Int) ∧ ∃ val, PV val w1 ∧ Blk w1 cv T #[val] ∧ Fr (fun i => i = cv) w w1) hent hlen (fun A n c h1 h2 h3 => (hcl rfl A n c h1 h2 h3).mono ?_) ?_).mono ?_
    · rintro en w1 ⟨rfl, h4⟩
      exact ⟨_, _, rfl, rfl, rfl, h4⟩
    · rintro n er w1 ⟨rfl, rfl, _, _, _, h5⟩
      exact ⟨hblk w1 h5, by omega, by omega⟩
    · rintro en w' ⟨rfl, n, er, w1, ⟨rfl, rfl, val, h3, h4, h5⟩, h6⟩
      have hown : ∀ u : Addr, u.block = g → ∀ x, (w1.setCell u x).ownsRow base 5 1 v bs.length (BS bs) := fun u hu x => by
        have h7 := h5.own hR.2.1 (fun i hi hc => hvc (by rw [hi, hc]))
        exact ((Fr.refl (fun i => i = g) w1).setCell (p := u) (.inl hu) x).own h7 (fun i hi hc => hR.ne (by rw [hi, hc]))
      have hfr : ∀ u : Addr, u.block = g → ∀ x, Fr (fun i => i = g ∨ i = cv) w (w1.setCell u x) := fun u hu x => (h5.mono (fun i _ h => .inr h)).setCell (.inl (.inl hu)) x
      rcases h6 with ⟨hE, rfl⟩ | ⟨hE, rfl⟩
      · have hs : stepR at_ 0 N E = (at_ + N, 0) := by unfold stepR; rw [if_pos rfl, if_pos (by omega)]
        rw [hs]
        exact ⟨rfl, ⟨by simpa using (hblk w1 h5).set_ 1 _, hown ⟨g, 1, none⟩ rfl _, hN⟩, hfr ⟨g, 1, none⟩ rfl _, val, h4.far (p := ⟨g, 1, none⟩) (Ne.symm hgc) _, .inl ⟨rfl, hPV _ _ ⟨g, 1, none⟩ _ rfl h3⟩⟩
      · have hs : stepR at_ 0 N E = (at_, (E : Int)) := by unfold stepR; rw [if_pos rfl, if_neg (by omega)]
        rw [hs]
        exact ⟨rfl, ⟨by simpa using (hblk w1 h5).set_ 2 _, hown ⟨g, 2, none⟩ rfl _, hR.2.2⟩, hfr ⟨g, 2, none⟩ rfl _, val, h4.far (p := ⟨g, 2, none⟩) (Ne.symm hgc) _, .inl ⟨rfl, hPV _ _ ⟨g, 2, none⟩ _ rfl h3⟩⟩
  · have hs : stepR at_ e N E = (at_, e) := by unfold stepR; rw [if_neg he]
    rw [hs]
    have h2 : w.cell? ⟨g, 2, none⟩ = some (.int .i64 e) := by rw [hR.1.cell]; rfl
    refine (read_err g e _ w h2 he).mono ?_
    rintro en w' ⟨rfl, rfl⟩
    exact ⟨rfl, hR, Fr.refl _ _, v0, hcv, .inr ⟨he, rfl⟩⟩

theorem read_with (base g cv : Nat) (v v0 val : Value) (T : TypeId) (bs : List Nat) (at_ : Nat) (e : Int) (w : World) (hR : Rd w base g v bs at_ e) (hcv : Blk w cv T #[v0]) (hT : 5 ≠ T) (hT' : 110 ≠ T)
    (f : FuncId) (caps : Array Value) (hent : ∀ (args : Array Value) (W : World), (callFunc f args).run Try.prog W = .ok (.enter f args) W) (hlen : bs.length ≤ 140737488355328) (N E : Nat)
    (hcl : e = 0 → ∀ (A : Option Addr) (n c : Nat), n = bs.length - at_ → Reads w.drew w.heap.size 1 A n (BS (bs.drop at_)) → n ≤ c →
      Calls Try.prog f (#[.slice A n c] ++ caps) w.drew fun en w1 => en = .returned (.tuple #[.int .i64 (N : Int), .int .i64 (E : Int)]) ∧ Blk w1 cv T #[val] ∧ Fr (fun i => i = cv) w w1)
    (hN : at_ + N ≤ bs.length) :
    Calls Try.prog 81 #[.pointer (some ⟨g, 0, none⟩), .func (.func f) #[] caps] w fun en w' => en = .returned (.tuple #[]) ∧
      Rd w' base g v bs (stepR at_ e N E).1 (stepR at_ e N E).2 ∧ Blk w' cv T #[if e = 0 then val else v0] ∧ Fr (fun i => i = g ∨ i = cv) w w' := by
  refine (read_withP base g cv v v0 (fun x _ => x = val) T bs at_ e w hR hcv hT hT' f caps hent hlen N E (fun _ _ _ _ _ h => h) (fun he A n c h1 h2 h3 => (hcl he A n c h1 h2 h3).mono ?_) hN).mono ?_
  · rintro en w1 ⟨rfl, h4, h5⟩
    exact ⟨rfl, val, rfl, h4, h5⟩
  · rintro en w1 ⟨rfl, h4, h5, x, h6, ⟨he, rfl⟩ | ⟨he, rfl⟩⟩
    · exact ⟨rfl, h4, by rw [if_pos he]; exact h6, h5⟩
    · exact ⟨rfl, h4, by rw [if_neg he]; exact h6, h5⟩

theorem Rd.alloc {w : World} {base g at_ : Nat} {v : Value} {bs : List Nat} {e : Int} (h : Rd w base g v bs at_ e) (o : Obj) : Rd (w.alloc o) base g v bs at_ e := ⟨h.1.alloc o, h.2.1.alloc o, h.2.2⟩
theorem Rd.drewN {w : World} {base g at_ : Nat} {v : Value} {bs : List Nat} {e : Int} (h : Rd w base g v bs at_ e) (n : Nat) : Rd (w.drewN n) base g v bs at_ e := h
theorem RdStep.of_new {base g : Nat} {v : Value} {bs : List Nat} {p : Nat × Int} {w w' : World} {o : Obj} (h : Rd w' base g v bs p.1 p.2) (hf : Fr (fun i => i = g ∨ i = w.heap.size) (w.alloc o) w') : RdStep base g v bs p w w' :=
  ⟨h, ((Fr.refl (fun i => i = g) w).alloc o).trans hf (fun i hi h => by rcases h with h | h <;> omega)⟩
theorem RdStep.of_new2 {base g : Nat} {v : Value} {bs : List Nat} {p : Nat × Int} {w w' : World} {o o' : Obj} (h : Rd w' base g v bs p.1 p.2) (hf : Fr (fun i => i = g ∨ i = w.heap.size + 1) ((w.alloc o).alloc o') w') : RdStep base g v bs p w w' :=
  ⟨h, (((Fr.refl (fun i => i = g) w).alloc o).alloc o').trans hf (fun i hi h => by rcases h with h | h <;> omega)⟩
end Go.Proofs.Ytoahomhnjmdbkaa
