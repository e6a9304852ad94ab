
/-
  What a Reader's calls tell where it has an error: nothing, and it stays as it is.
-/
import Derived.Test.YtoahomhnjmdbkaaRdRaw
namespace Go.Proofs.Ytoahomhnjmdbkaa
open Go.RowKit Plain

theorem rd_short_stop (base g : Nat) (v : Value) (bs : List Nat) (at_ : Nat) (e : Int) (w : World) (hR : Rd w base g v bs at_ e) (he : e ≠ 0) :
    Calls Try.prog 47 #[.pointer (some ⟨g, 0, none⟩)] w fun en w' => en = .returned (.int .i64 0) ∧ RdStep base g v bs (at_, e) w w' := by
  have HR := Lib.hid hR
  have HE := Lib.hid he
  clear hR he
  go_enter Try.func47, Try.ntmps47
  go_wp2_with fail
  refine (read_err g e _ _ (cell_at (HR.out.alloc _)).2.2.1 HE.out).mono ?_
  rintro en w' ⟨rfl, rfl⟩
  go_wp2_with fail
  go_ret
  exact ⟨rfl, HR.out.alloc _, (Fr.refl _ w).alloc _⟩

theorem rd_signed_stop (base g : Nat) (v : Value) (bs : List Nat) (at_ : Nat) (e : Int) (w : World) (hR : Rd w base g v bs at_ e) (he : e ≠ 0) :
    Calls Try.prog 80 #[.pointer (some ⟨g, 0, none⟩)] w fun en w' => en = .returned (.int .i64 0) ∧ RdStep base g v bs (at_, e) w w' := by
  have HR := Lib.hid hR
  have HE := Lib.hid he
  clear hR he
  go_enter Try.func80, Try.ntmps80
  go_wp2_with fail
  refine (read_err g e _ _ (cell_at (HR.out.alloc _)).2.2.1 HE.out).mono ?_
  rintro en w' ⟨rfl, rfl⟩
  go_wp2_with fail
  go_ret
  exact ⟨rfl, HR.out.alloc _, (Fr.refl _ w).alloc _⟩

theorem rd_list_stop (base g : Nat) (v : Value) (bs : List Nat) (at_ : Nat) (e x : Int) (w : World) (hR : Rd w base g v bs at_ e) (he : e ≠ 0) :
    Calls Try.prog 76 #[.pointer (some ⟨g, 0, none⟩), .int .i64 x] w fun en w' => en = .returned (.int .i64 0) ∧ RdStep base g v bs (at_, e) w w' := by
  have HR := Lib.hid hR
  have HE := Lib.hid he
  clear hR he
  go_enter Try.func76, Try.ntmps76
  go_wp2_with fail
  refine (read_err g e _ _ (cell_at ((HR.out.alloc _).alloc _)).2.2.1 HE.out).mono ?_
  rintro en w' ⟨rfl, rfl⟩
  go_wp2_with fail
  go_ret
  exact ⟨rfl, (HR.out.alloc _).alloc _, ((Fr.refl _ w).alloc _).alloc _⟩

theorem rd_fixed_stop (base g : Nat) (v : Value) (bs : List Nat) (at_ n : Nat) (e : Int) (w : World) (hR : Rd w base g v bs at_ e) (he : e ≠ 0) (hn : Wide n) :
    Calls Try.prog 79 #[.pointer (some ⟨g, 0, none⟩), .int .i64 (n : Int)] w fun en w' => en = .returned (.int .u64 0) ∧ RdStep base g v bs (at_, e) w w' := by
  have HR := Lib.hid hR
  have HE := Lib.hid he
  have HN := Lib.hid hn
  clear hR he hn
  go_enter Try.func79, Try.ntmps79
  go_wp2_with fail
  refine (isWidth_yes n _ HN.out).mono ?_
  rintro en w1 ⟨rfl, rfl⟩
  go_wp2_with fail
  refine (read_err g e _ _ (cell_at ((HR.out.alloc _).alloc _)).2.2.1 HE.out).mono ?_
  rintro en w' ⟨rfl, rfl⟩
  go_wp2_with fail
  go_ret
  exact ⟨rfl, (HR.out.alloc _).alloc _, ((Fr.refl _ w).alloc _).alloc _⟩

theorem rd_end_stop (base g : Nat) (v : Value) (bs : List Nat) (at_ : Nat) (e : Int) (w : World) (hR : Rd w base g v bs at_ e) (he : e ≠ 0) (hlen : bs.length ≤ 140737488355328) :
    Calls Try.prog 51 #[.pointer (some ⟨g, 0, none⟩)] w fun en w' => en = .returned (.int .i64 e) ∧ RdStep base g v bs (at_, e) w w' := by
  have HR := Lib.hid hR
  have HE := Lib.hid he
  have hle := hR.2.2
  clear hR he
  by_cases h : at_ < bs.length
  · go_enter Try.func51, Try.ntmps51
    go_wp2_with fail
    refine (rd_left base g v bs at_ e w HR.out hlen).mono ?_
    rintro en w1 ⟨rfl, k, rfl⟩
    go_wp2_with fail
    refine (rd_fail base g v bs at_ e 3 _ (HR.out.drewN k)).mono ?_
    rintro en w2 ⟨rfl, h2, f2⟩
    simp only at h2
    rw [if_neg HE.out] at h2
    have hc := (cell_at h2).2.2.1
    have H2 := Lib.hid h2
    have F2 := Lib.hid f2
    clear h2 f2
    go_wp2_with fail
    go_ret
    exact ⟨rfl, H2.out, ((Fr.refl _ w).drewN k).trans F2.out (fun _ _ h => h)⟩
  · go_enter Try.func51, Try.ntmps51
    go_wp2_with fail
    refine (rd_left base g v bs at_ e w HR.out hlen).mono ?_
    rintro en w1 ⟨rfl, k, rfl⟩
    have hc := (cell_at (HR.out.drewN k)).2.2.1
    go_wp2_with fail
    go_ret
    exact ⟨rfl, HR.out.drewN k, (Fr.refl _ w).drewN k⟩
end Go.Proofs.Ytoahomhnjmdbkaa
