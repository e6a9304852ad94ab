
/-
  What a Reader's calls tell, and where it stands behind them.
-/
import Derived.Test.YtoahomhnjmdbkaaRdWith
import Derived.OneCell
namespace Go.Proofs.Ytoahomhnjmdbkaa
open Go.RowKit Plain

theorem fr_one {w : World} {cv : Nat} (x : Value) : Fr (fun i => i = cv) w (w.setCell ⟨cv, 0, none⟩ x) := (Fr.refl (fun i => i = cv) w).setCell (p := ⟨cv, 0, none⟩) (.inl rfl) x

/-- A number that was read, or 0 where there was an error. -/
def orZ (e x : Int) : Int := if e = 0 then x else 0
theorem orZ_val (e x : Int) : (if e = 0 then Value.int .i64 x else Value.int .i64 0) = .int .i64 (orZ e x) := by unfold orZ; split <;> rfl
theorem orZ_val64 (e x : Int) : (if e = 0 then Value.int .u64 x else Value.int .u64 0) = .int .u64 (orZ e x) := by unfold orZ; split <;> rfl

set_option maxHeartbeats 400000 in
theorem cl_short (xs : List Nat) (n : Nat) (hl : xs.length = n) (hx : ∀ x ∈ xs, x < 256) (w : World) (BB : Nat) (A : Option Addr) (c cv : Nat) (v0 : Value) (ha : Reads w BB 1 A n (BS xs)) (hn : n ≤ 140737488355328)
    (hcv : Blk w cv 3 #[v0]) :
    Calls Try.prog 82 #[.slice A n c, .pointer (some ⟨cv, 0, none⟩)] w fun en w1 =>
      en = .returned (.tuple #[.int .i64 ((rs xs).2.1 : Int), .int .i64 ((rs xs).2.2 : Int)]) ∧ Blk w1 cv 3 #[.int .i64 ((rs xs).1 : Int)] ∧ Fr (fun i => i = cv) w w1 := by
  have hc : w.cell? ⟨cv, 0, none⟩ = some v0 := by rw [hcv.cell]; rfl
  have hf := hcv.frozen 0
  have HB := Lib.hid hcv
  clear hcv
  go_enter Try.func82, Try.ntmps82
  go_wp2_with fail
  refine (rshort_any xs n hl hx w BB A c ha hn).mono ?_
  rintro e w' ⟨he, rfl⟩
  unfold Told at he
  subst he
  go_wp2_with fail
  go_ret2
  exact ⟨rfl, by simpa using HB.out.set_ 0 _, fr_one _⟩

set_option maxHeartbeats 400000 in
theorem rd_short (base g : Nat) (v : Value) (bs : List Nat) (at_ : Nat) (e : Int) (w : World) (hR : Rd w base g v bs at_ e) (hx : ∀ x ∈ bs, x < 256) (hlen : bs.length ≤ 140737488355328) (hN : at_ + (rs (bs.drop at_)).2.1 ≤ bs.length) :
    Calls Try.prog 47 #[.pointer (some ⟨g, 0, none⟩)] w fun en w' =>
      en = .returned (.int .i64 (orZ e ((rs (bs.drop at_)).1 : Int))) ∧ RdStep base g v bs (stepR at_ e (rs (bs.drop at_)).2.1 (rs (bs.drop at_)).2.2) w w' := by
  have HR := Lib.hid hR
  have HX := Lib.hid hx
  have HN := Lib.hid hN
  clear hR hx hN
  go_enter Try.func47, Try.ntmps47
  go_wp2_with fail
  refine (read_with base g w.heap.size v (.int .i64 0) (.int .i64 ((rs (bs.drop at_)).1 : Int)) 3 bs at_ e _ (HR.out.alloc _) (Blk.new w _ _) (by decide) (by decide) 82 #[.pointer (some ⟨w.heap.size, 0, none⟩)]
    (fun args W => by go_simp) hlen (rs (bs.drop at_)).2.1 (rs (bs.drop at_)).2.2 (fun _ A n c h1 h2 h3 => (cl_short (bs.drop at_) n (by rw [List.length_drop]; omega) (fun x hx => HX.out x (List.mem_of_mem_drop hx)) _ _ A c w.heap.size _ h2 (by omega) (Blk.new w _ _).drew).mono ?_) HN.out).mono ?_
  · rintro en w1 ⟨rfl, h4, h5⟩
    exact ⟨rfl, h4, ((Fr.refl _ _).drew).trans h5 (fun _ _ h => h)⟩
  rintro en w' ⟨rfl, h4, h5, h6⟩
  have hc5 : w'.cell? ⟨w.heap.size, 0, none⟩ = some (.int .i64 (orZ e ((rs (bs.drop at_)).1 : Int))) := by rw [h5.cell, orZ_val]; rfl
  have H4 := Lib.hid h4
  have H6 := Lib.hid h6
  clear h4 h5 h6
  go_wp2_with fail
  go_ret
  exact ⟨rfl, RdStep.of_new H4.out H6.out⟩

theorem rd_short_yes (base g : Nat) (v : Value) (bs : List Nat) (at_ V K : Nat) (w : World) (hR : Rd w base g v bs at_ 0) (hx : ∀ x ∈ bs, x < 256) (hlen : bs.length ≤ 140737488355328) (hrs : rs (bs.drop at_) = (V, K, 0)) (hK : at_ + K ≤ bs.length) :
    Calls Try.prog 47 #[.pointer (some ⟨g, 0, none⟩)] w fun en w' => en = .returned (.int .i64 (V : Int)) ∧ RdStep base g v bs (at_ + K, 0) w w' := by
  have h := rd_short base g v bs at_ 0 w hR hx hlen (by rw [hrs]; exact hK)
  rw [hrs] at h
  exact h
theorem rd_short_no (base g : Nat) (v : Value) (bs : List Nat) (at_ E : Nat) (w : World) (hR : Rd w base g v bs at_ 0) (hx : ∀ x ∈ bs, x < 256) (hlen : bs.length ≤ 140737488355328) (hrs : rs (bs.drop at_) = (0, 0, E)) (hE : E ≠ 0) :
    Calls Try.prog 47 #[.pointer (some ⟨g, 0, none⟩)] w fun en w' => en = .returned (.int .i64 0) ∧ RdStep base g v bs (at_, (E : Int)) w w' := by
  have h := rd_short base g v bs at_ 0 w hR hx hlen (by rw [hrs]; exact hR.2.2)
  rw [hrs] at h
  have hs : stepR at_ 0 0 E = (at_, (E : Int)) := by unfold stepR; rw [if_pos rfl, if_neg hE]
  rw [hs] at h
  exact h
theorem rd_short_err (base g : Nat) (v : Value) (bs : List Nat) (at_ : Nat) (e : Int) (w : World) (hR : Rd w base g v bs at_ e) (hx : ∀ x ∈ bs, x < 256) (hlen : bs.length ≤ 140737488355328) (hN : at_ + (rs (bs.drop at_)).2.1 ≤ bs.length) (he : e ≠ 0) :
    Calls Try.prog 47 #[.pointer (some ⟨g, 0, none⟩)] w fun en w' => en = .returned (.int .i64 0) ∧ RdStep base g v bs (at_, e) w w' := by
  have h := rd_short base g v bs at_ e w hR hx hlen hN
  have hs : stepR at_ e (rs (bs.drop at_)).2.1 (rs (bs.drop at_)).2.2 = (at_, e) := by unfold stepR; rw [if_neg he]
  have ho : orZ e ((rs (bs.drop at_)).1 : Int) = 0 := by unfold orZ; rw [if_neg he]
  rw [hs, ho] at h
  exact h

theorem cell_at {w : World} {base g at_ : Nat} {v : Value} {bs : List Nat} {e : Int} (h : Rd w base g v bs at_ e) : w.cell? ⟨g, 0, none⟩ = some v ∧ w.cell? ⟨g, 1, none⟩ = some (.int .i64 (at_ : Int)) ∧ w.cell? ⟨g, 2, none⟩ = some (.int .i64 e) ∧ w.frozen? ⟨g, 2, none⟩ = false :=
  ⟨by rw [h.1.cell]; rfl, by rw [h.1.cell]; rfl, by rw [h.1.cell]; rfl, h.1.frozen 2⟩

theorem rd_left (base g : Nat) (v : Value) (bs : List Nat) (at_ : Nat) (e : Int) (w : World) (hR : Rd w base g v bs at_ e) (hlen : bs.length ≤ 140737488355328) :
    Calls Try.prog 84 #[.pointer (some ⟨g, 0, none⟩)] w fun en w' => en = .returned (.int .i64 ((bs.length : Int) - (at_ : Int))) ∧ ∃ k, w' = w.drewN k := by
  obtain ⟨h0, h1, _, _⟩ := cell_at hR
  have hle := hR.2.2
  obtain ⟨A, c, rfl, hc⟩ := hR.slice_
  clear hR
  go_enter Try.func84, Try.ntmps84
  go_wp2_with fail
  go_quiet (fail)
  go_wp2_with fail
  go_ret
  exact ⟨rfl, _, rfl⟩

theorem rd_fail (base g : Nat) (v : Value) (bs : List Nat) (at_ : Nat) (e e' : Int) (w : World) (hR : Rd w base g v bs at_ e) :
    Calls Try.prog 85 #[.pointer (some ⟨g, 0, none⟩), .int .i64 e'] w fun en w' => en = .returned (.tuple #[]) ∧ RdStep base g v bs (at_, if e = 0 then e' else e) w w' := by
  obtain ⟨_, _, h2, f2⟩ := cell_at hR
  have HR := Lib.hid hR
  clear hR
  by_cases he : e = 0
  · subst he
    rw [if_pos rfl]
    go_enter Try.func85, Try.ntmps85
    go_wp2_with fail
    go_end0
    have h7 := (Fr.refl (fun i => i = g) w).setCell (p := ⟨g, 2, none⟩) (.inl rfl) (.int .i64 e')
    exact ⟨rfl, ⟨by simpa using HR.out.1.set_ 2 (.int .i64 e'), h7.own HR.out.2.1 (fun i hi hc => HR.out.ne (by rw [hi, hc])), HR.out.2.2⟩, h7⟩
  · rw [if_neg he]
    have he' : (e == 0) = false := by simpa using he
    clear he
    go_enter Try.func85, Try.ntmps85
    go_wp2_with fail
    go_end0
    exact ⟨rfl, HR.out, Fr.refl _ _⟩
end Go.Proofs.Ytoahomhnjmdbkaa
