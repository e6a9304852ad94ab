
/-
  A Reader in memory, and how its calls read: what is left is handed to a closure; the place, or the error, is laid down behind it.
-/
import Derived.Test.YtoahomhnjmdbkaaHelp
import Derived.Deep.RegionHeld3
namespace Go.Proofs.Ytoahomhnjmdbkaa
open Go.RowKit Plain

/-- The Reader whose struct lies in block g: its bytes bs are the slice v, in a row of its own; the place; the error. -/
def Rd (w : World) (base g : Nat) (v : Value) (bs : List Nat) (at_ : Nat) (e : Int) : Prop :=
  Blk w g 110 #[v, .int .i64 (at_ : Int), .int .i64 e] ∧ w.ownsRow base 5 1 v bs.length (BS bs) ∧ at_ ≤ bs.length

section
variable {w w' : World} {base g at_ : Nat} {v : Value} {bs : List Nat} {e : Int}
theorem Rd.lt (h : Rd w base g v bs at_ e) : g < w.heap.size := h.1.lt
theorem Rd.fr {S : Nat → Prop} (h : Rd w base g v bs at_ e) (hf : Fr S w w') (hg : ¬ S g) (hS : ∀ i, v.ownBlock = some i → ¬ S i) : Rd w' base g v bs at_ e :=
  ⟨hf.blk h.1 hg, hf.own h.2.1 hS, h.2.2⟩
theorem Rd.below (h : Rd w base g v bs at_ e) (hb : Below w.heap.size w w') : Rd w' base g v bs at_ e :=
  h.fr (Fr.of_below hb) (by have := h.lt; omega) (fun i hi => by have := (h.2.1.lt i hi).2; omega)
theorem Rd.slice_ (h : Rd w base g v bs at_ e) : ∃ A c, v = .slice A bs.length c ∧ bs.length ≤ c := by
  rcases h.2.1.2 with ⟨rfl, h0⟩ | ⟨k, cap, _, rfl, _, _, hc, _⟩
  · exact ⟨none, 0, by rw [h0], by omega⟩
  · exact ⟨_, cap, rfl, hc⟩
theorem Rd.ne (h : Rd w base g v bs at_ e) : v.ownBlock ≠ some g := own_blk_ne h.2.1 h.1 (by decide)
end

theorem enters49 : ∀ (args : Array Value) (W : World), (callFunc 82 args).run Try.prog W = .ok (.enter 82 args) W := by
  intro args W
  go_simp

set_option maxHeartbeats 1000000 in
/-- read, where there is no error: the closure is handed what is left. -/
theorem read_go (base g : Nat) (v : Value) (bs : List Nat) (at_ : Nat) (w : World) (hR : Rd w base g v bs at_ 0) (f : FuncId) (caps : Array Value) (PP : Int → Int → World → Prop) (hent : ∀ (args : Array Value) (W : World), (callFunc f args).run Try.prog W = .ok (.enter f args) W) (hlen : bs.length ≤ 140737488355328)
    (hcl : ∀ (A : Option Addr) (n c : Nat), n = bs.length - at_ → Reads w.drew w.heap.size 1 A n (BS (bs.drop at_)) → n ≤ c →
      Calls Try.prog f (#[.slice A n c] ++ caps) w.drew fun e w1 => ∃ n er, e = .returned (.tuple #[.int .i64 n, .int .i64 er]) ∧ PP n er w1)
    (hP : ∀ n er w1, PP n er w1 → Blk w1 g 110 #[v, .int .i64 (at_ : Int), .int .i64 0] ∧ 0 ≤ n ∧ (at_ : Int) + n ≤ bs.length) :
    Calls Try.prog 81 #[.pointer (some ⟨g, 0, none⟩), .func (.func f) #[] caps] w fun e w' => e = .returned (.tuple #[]) ∧ 
      ∃ n er w1, PP n er w1 ∧ ((er = 0 ∧ w' = w1.setCell ⟨g, 1, none⟩ (.int .i64 (at_ + n))) ∨ (er ≠ 0 ∧ w' = w1.setCell ⟨g, 2, none⟩ (.int .i64 er))) := by
  have h0 : w.cell? ⟨g, 0, none⟩ = some v := by rw [hR.1.cell]; rfl
  have h1 : w.cell? ⟨g, 1, none⟩ = some (.int .i64 (at_ : Int)) := by rw [hR.1.cell]; rfl
  have h2 : w.cell? ⟨g, 2, none⟩ = some (.int .i64 0) := by rw [hR.1.cell]; rfl
  obtain ⟨A, c, rfl, hc⟩ := hR.slice_
  have hle := hR.2.2
  have hrd : Reads w.drew w.heap.size 1 (if c = at_ then A else Option.map (fun x => x.add at_) A) (bs.length - at_) (BS (bs.drop at_)) := by
    have := (Reads.of_own hR.2.1).cut (k := at_) hle hc
    simp only [Nat.mul_one] at this
    rw [show (BS bs).drop at_ = BS (bs.drop at_) by simp [BS]] at this
    exact this.drew
  have HC := Lib.hid hcl
  have HP := Lib.hid hP
  have HR := Lib.hid hR
  clear hcl hP hR
  by_cases hca : c = at_
  · subst hca
    rw [if_pos rfl, show bs.length - c = 0 by omega] at hrd
    have HRD := Lib.hid hrd
    clear hrd
    go_enter Try.func81, Try.ntmps81
    go_wp2_with fail
    go_region_held3 (fun w' => w'.cell? ⟨g, 0, none⟩ = some (.slice A bs.length c) ∧ w'.cell? ⟨g, 1, none⟩ = some (.int .i64 (c : Int)))
      (first | go_keep | (have hb := (HP.out _ _ _ hp).1; exact ⟨by rw [hb.cell]; rfl, by rw [hb.cell]; rfl⟩))
      ((go_simp; refine (HC.out A 0 0 (by omega) HRD.out (by omega)).mono ?_; rintro e w1 ⟨n, er, rfl, hp⟩))
    obtain ⟨hb, hn0, hn1⟩ := HP.out _ _ _ hp
    have c1 : w1.cell? ⟨g, 1, none⟩ = some (.int .i64 (c : Int)) := by rw [hb.cell]; rfl
    have f1 := hb.frozen 1
    have f2 := hb.frozen 2
    have c2 : w1.cell? ⟨g, 2, none⟩ = some (.int .i64 0) := by rw [hb.cell]; rfl
    have HB := Lib.hid hb
    clear hb h0 h1 h2
    by_cases he : er = 0
    · subst he
      go_wp2_with fail
      go_end0
      exact ⟨rfl, n, 0, w1, hp, .inl ⟨rfl, rfl⟩⟩
    · have he' : (er != 0) = true := by simpa using he
      have HE := Lib.hid he
      clear he
      go_wp2_with fail
      refine bodyPost_ret (results_none rfl _ _ _) rfl ?_
      exact ⟨rfl, n, er, w1, hp, .inr ⟨HE.out, rfl⟩⟩
  · rw [if_neg hca] at hrd
    have HRD := Lib.hid hrd
    clear hrd
    go_enter Try.func81, Try.ntmps81
    go_wp2_with fail
    go_region_held3 (fun w' => w'.cell? ⟨g, 0, none⟩ = some (.slice A bs.length c) ∧ w'.cell? ⟨g, 1, none⟩ = some (.int .i64 (at_ : Int)))
      (first | go_keep | (have hb := (HP.out _ _ _ hp).1; exact ⟨by rw [hb.cell]; rfl, by rw [hb.cell]; rfl⟩))
      ((go_simp; refine (HC.out _ _ _ rfl HRD.out (by omega)).mono ?_; rintro e w1 ⟨n, er, rfl, hp⟩))
    obtain ⟨hb, hn0, hn1⟩ := HP.out _ _ _ hp
    have c1 : w1.cell? ⟨g, 1, none⟩ = some (.int .i64 (at_ : Int)) := by rw [hb.cell]; rfl
    have f1 := hb.frozen 1
    have f2 := hb.frozen 2
    have c2 : w1.cell? ⟨g, 2, none⟩ = some (.int .i64 0) := by rw [hb.cell]; rfl
    have HB := Lib.hid hb
    clear hb h0 h1 h2
    by_cases he : er = 0
    · subst he
      go_wp2_with fail
      go_end0
      exact ⟨rfl, n, 0, w1, hp, .inl ⟨rfl, rfl⟩⟩
    · have he' : (er != 0) = true := by simpa using he
      have HE := Lib.hid he
      clear he
      go_wp2_with fail
      refine bodyPost_ret (results_none rfl _ _ _) rfl ?_
      exact ⟨rfl, n, er, w1, hp, .inr ⟨HE.out, rfl⟩⟩

/-- read, where there is an error: nothing is done. -/
theorem read_err (g : Nat) (e : Int) (fv : Value) (w : World) (h2 : w.cell? ⟨g, 2, none⟩ = some (.int .i64 e)) (he : e ≠ 0) :
    Calls Try.prog 81 #[.pointer (some ⟨g, 0, none⟩), fv] w fun e w' => e = .returned (.tuple #[]) ∧ w = w' := by
  have he' : (e != 0) = true := by simpa using he
  clear he
  go_enter Try.func81, Try.ntmps81
  go_wp2_with fail
  refine bodyPost_ret (results_none rfl _ _ _) rfl ?_
  exact ⟨rfl, rfl⟩
end Go.Proofs.Ytoahomhnjmdbkaa
