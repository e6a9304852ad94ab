/-
  What a Reader's Signed tells where a signed number stands at the place.
-/
import Derived.Test.YtnhibnjgdkpomaaRdErr
namespace Go.Proofs.Ytnhibnjgdkpomaa
open Go.RowKit Plain

/-- The signed number that a short number means. -/
def unzig (V : Nat) : Int := if V % 2 = 1 then -1 - (V / 2 : Nat) else (V / 2 : Nat)

set_option maxHeartbeats 400000 in
theorem cl_signed_yes (xs : List Nat) (n V K : Nat) (hl : xs.length = n) (hx : ∀ x ∈ xs, x < 256) (w : World) (BB : Nat) (A : Option Addr) (c cv : Nat) (v0 : Value) (ha : Reads w BB 1 A n (BS xs)) (hn : n ≤ 140737488355328)
    (hcv : Blk w cv 3 #[v0]) (hrs : rs xs = (V, K, 0)) (hV : V ≤ 4611686018427387903) :
    Calls Try.prog 51 #[.slice A n c, .pointer (some ⟨cv, 0, none⟩)] w fun en w1 =>
      en = .returned (.tuple #[.int .i64 (K : Int), .int .i64 ((0 : Nat) : Int)]) ∧ Blk w1 cv 3 #[.int .i64 (unzig V)] ∧ Fr (fun i => i = cv) w w1 := by
  have hc : w.cell? ⟨cv, 0, none⟩ = some v0 := by rw [hcv.cell]; rfl
  have hf := hcv.frozen 0
  have HB := Lib.hid hcv
  have HRS := Lib.hid hrs
  clear hcv hrs
  by_cases hp : V % 2 = 1
  · have hu : unzig V = -1 - (V : Int) / 2 := by unfold unzig; rw [if_pos hp]; omega
    have HU := Lib.hid hu
    have hb : ((V : Int) % 2 == 1) = true := by rw [beq_iff_eq]; omega
    clear hu hp
    go_enter Try.func51, Try.ntmps51
    go_wp2_with fail
    refine (rshort_any xs n hl hx w BB A c ha hn).mono ?_
    rintro e w' ⟨he, rfl⟩
    unfold Told at he
    rw [HRS.out] at he
    subst he
    go_wp2_with fail
    go_ret2
    refine ⟨rfl, ?_, ?_⟩
    · rw [HU.out]
      simpa using (HB.out.set_ 0 (.int .i64 ((V : Int) / 2))).set_ 0 (.int .i64 (-1 - (V : Int) / 2))
    · exact (fr_one _).trans (fr_one _) (fun _ _ h => h)
  · have hu : unzig V = (V : Int) / 2 := by unfold unzig; rw [if_neg hp]; omega
    have HU := Lib.hid hu
    have hb : ((V : Int) % 2 == 1) = false := by rw [beq_eq_false_iff_ne]; omega
    clear hu hp
    go_enter Try.func51, Try.ntmps51
    go_wp2_with fail
    refine (rshort_any xs n hl hx w BB A c ha hn).mono ?_
    rintro e w' ⟨he, rfl⟩
    unfold Told at he
    rw [HRS.out] at he
    subst he
    go_wp2_with fail
    go_ret2
    refine ⟨rfl, ?_, fr_one _⟩
    rw [HU.out]
    simpa using HB.out.set_ 0 (.int .i64 ((V : Int) / 2))

set_option maxHeartbeats 400000 in
theorem rd_signed_yes (base g : Nat) (v : Value) (bs : List Nat) (at_ V K : Nat) (w : World) (hR : Rd w base g v bs at_ 0) (hx : ∀ x ∈ bs, x < 256) (hlen : bs.length ≤ 140737488355328) (hrs : rs (bs.drop at_) = (V, K, 0)) (hK : at_ + K ≤ bs.length) (hV : V ≤ 4611686018427387903) :
    Calls Try.prog 23 #[.pointer (some ⟨g, 0, none⟩)] w fun en w' => en = .returned (.int .i64 (unzig V)) ∧ RdStep base g v bs (at_ + K, 0) w w' := by
  have HR := Lib.hid hR
  have HX := Lib.hid hx
  have HRS := Lib.hid hrs
  clear hR hx hrs
  go_enter Try.func23, Try.ntmps23
  go_wp2_with fail
  refine (read_with base g w.heap.size v (.int .i64 0) (.int .i64 (unzig V)) 3 bs at_ 0 _ (HR.out.alloc _) (Blk.new w _ _) (by decide) (by decide) 51 #[.pointer (some ⟨w.heap.size, 0, none⟩)]
    (fun args W => by go_simp) hlen K 0 (fun _ A n c h1 h2 h3 => (cl_signed_yes (bs.drop at_) n V K (by rw [List.length_drop]; omega) (fun x hx => HX.out x (List.mem_of_mem_drop hx)) _ _ A c w.heap.size _ h2 (by omega) (Blk.new w _ _).drew HRS.out hV).mono ?_) hK).mono ?_
  · rintro en w1 ⟨rfl, h4, h5⟩
    exact ⟨rfl, h4, ((Fr.refl _ _).drew).trans h5 (fun _ _ h => h)⟩
  rintro en w' ⟨rfl, h4, h5, h6⟩
  have hc5 : w'.cell? ⟨w.heap.size, 0, none⟩ = some (.int .i64 (unzig V)) := by rw [h5.cell]; rfl
  have H4 := Lib.hid h4
  have H6 := Lib.hid h6
  clear h4 h5 h6
  go_wp2_with fail
  go_ret
  exact ⟨rfl, RdStep.of_new H4.out H6.out⟩
end Go.Proofs.Ytnhibnjgdkpomaa
