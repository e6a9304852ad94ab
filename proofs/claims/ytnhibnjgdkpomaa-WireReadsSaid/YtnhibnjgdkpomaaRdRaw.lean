/-
  What a Reader's Raw tells: bytes in memory of their own.
-/
import Derived.Test.YtnhibnjgdkpomaaLaw
namespace Go.Proofs.Ytnhibnjgdkpomaa
open Go.RowKit Plain

set_option maxHeartbeats 400000 in
theorem cl_raw_no (A : Option Addr) (n c : Nat) (cn cb : Nat) (x : Int) (v0 : Value) (w : World) (hx : (n : Int) < x) (hcn : Blk w cn 3 #[.int .i64 x]) (hcb : Blk w cb 23 #[v0]) :
    Calls Try.prog 53 #[.slice A n c, .pointer (some ⟨cn, 0, none⟩), .pointer (some ⟨cb, 0, none⟩)] w fun en w1 =>
      en = .returned (.tuple #[.int .i64 ((0 : Nat) : Int), .int .i64 ((2 : Nat) : Int)]) ∧ Blk w1 cb 23 #[v0] ∧ Fr (fun i => i = cb) w w1 := by
  have hc : w.cell? ⟨cn, 0, none⟩ = some (.int .i64 x) := by rw [hcn.cell]; rfl
  clear hcn
  have HB := Lib.hid hcb
  clear hcb
  go_enter Try.func53, Try.ntmps53
  go_wp2_with fail
  go_ret2
  exact ⟨rfl, HB.out, Fr.refl _ _⟩

set_option maxHeartbeats 400000 in
theorem cl_raw_yes (xs : List Nat) (n : Nat) (_hl : xs.length = n) (A : Option Addr) (c : Nat) (cn cb m : Nat) (x : Int) (v0 : Value) (w : World) (BB : Nat) (hr : Reads w BB 1 A n (BS xs)) (hn : n ≤ 140737488355328) (hnc : n ≤ c) (hx : x ≤ (m : Int)) (hm : m = x.toNat) (hmn : m ≤ n) (hcn : Blk w cn 3 #[.int .i64 x]) (hcb : Blk w cb 23 #[v0]) :
    Calls Try.prog 53 #[.slice A n c, .pointer (some ⟨cn, 0, none⟩), .pointer (some ⟨cb, 0, none⟩)] w fun en w1 =>
      en = .returned (.tuple #[.int .i64 (m : Int), .int .i64 ((0 : Nat) : Int)]) ∧ ∃ val, w1.ownsRow w.heap.size 5 1 val m (BS (xs.take m)) ∧ Blk w1 cb 23 #[val] ∧ Fr (fun i => i = cb) w w1 := by
  have hc : w.cell? ⟨cn, 0, none⟩ = some (.int .i64 x) := by rw [hcn.cell]; rfl
  clear hcn
  have HR := Lib.hid (hr.take hmn)
  have hlm : (xs.take m).length = m := by rw [List.length_take]; omega
  have HL := Lib.hid hlm
  have HB := Lib.hid hcb
  clear hcb hr hlm
  by_cases h0 : 0 ≤ x
  · obtain rfl : x = (m : Int) := by omega
    clear hm hx h0
    go_enter Try.func53, Try.ntmps53
    go_wp2_with fail
    refine (own_at (xs.take m) m HL.out w BB A c HR.out (by omega)).mono ?_
    rintro e w1 ⟨v', rfl, h1, h2⟩
    obtain ⟨A', c', rfl, _⟩ := reads_own h1
    have H1 := Lib.hid h1
    have hb1 := HB.out.below h2 HB.out.lt
    have hf1 := hb1.frozen 0
    have hc1 : w1.cell? ⟨cb, 0, none⟩ = some v0 := by rw [hb1.cell]; rfl
    have H2 := Lib.hid h2
    have HB1 := Lib.hid hb1
    clear h1 h2 hb1
    go_wp2_with fail
    go_ret2
    refine ⟨rfl, _, ?_, by simpa using HB1.out.set_ 0 _, ?_⟩
    · exact (Fr.refl (fun i => i = cb) w1 |>.setCell (p := ⟨cb, 0, none⟩) (.inl rfl) _).own H1.out (fun i hi he => by
        have := (H1.out.lt i hi).1
        have := HB.out.lt
        omega)
    · exact (Fr.mono (S := fun i => i = cb) (Fr.of_below H2.out) (fun i hi h => by omega)).setCell (p := ⟨cb, 0, none⟩) (.inl rfl) _
  · obtain rfl : m = 0 := by omega
    clear hm hx
    go_enter Try.func53, Try.ntmps53
    go_wp2_with fail
    refine (own_at (xs.take 0) 0 HL.out w BB A c HR.out (by omega)).mono ?_
    rintro e w1 ⟨v', rfl, h1, h2⟩
    obtain ⟨A', c', rfl, _⟩ := reads_own h1
    have H1 := Lib.hid h1
    have hb1 := HB.out.below h2 HB.out.lt
    have hf1 := hb1.frozen 0
    have hc1 : w1.cell? ⟨cb, 0, none⟩ = some v0 := by rw [hb1.cell]; rfl
    have H2 := Lib.hid h2
    have HB1 := Lib.hid hb1
    clear h1 h2 hb1
    go_wp2_with fail
    go_ret2
    refine ⟨rfl, _, ?_, by simpa using HB1.out.set_ 0 _, ?_⟩
    · exact (Fr.refl (fun i => i = cb) w1 |>.setCell (p := ⟨cb, 0, none⟩) (.inl rfl) _).own H1.out (fun i hi he => by
        have := (H1.out.lt i hi).1
        have := HB.out.lt
        omega)
    · exact (Fr.mono (S := fun i => i = cb) (Fr.of_below H2.out) (fun i hi h => by omega)).setCell (p := ⟨cb, 0, none⟩) (.inl rfl) _

set_option maxHeartbeats 400000 in
/-- Raw of n bytes (none of n below 0), where that many are there. -/
theorem rd_raw_yes (base g : Nat) (v : Value) (bs : List Nat) (at_ m : Nat) (x : Int) (w : World) (hR : Rd w base g v bs at_ 0) (hlen : bs.length ≤ 140737488355328) (hm : m = x.toNat) (hN : at_ + m ≤ bs.length) :
    Calls Try.prog 25 #[.pointer (some ⟨g, 0, none⟩), .int .i64 x] w fun en w' =>
      ∃ val, en = .returned val ∧ w'.ownsRow w.heap.size 5 1 val m (BS ((bs.drop at_).take m)) ∧ RdStep base g v bs (at_ + m, 0) w w' := by
  have HR := Lib.hid hR
  have HM := Lib.hid hm
  have HN := Lib.hid hN
  have hg := hR.lt
  clear hR hm hN
  go_enter Try.func25, Try.ntmps25
  go_wp2_with fail
  refine (read_withP base g (w.heap.size + 1) v (.slice none 0 0) (fun val w1 => w1.ownsRow w.heap.size 5 1 val m (BS ((bs.drop at_).take m))) 23 bs at_ 0 _ ((HR.out.alloc _).alloc _) (by simpa using Blk.new (w.alloc (.cells #[.int .i64 x] 3)) _ _) (by decide) (by decide)
    53 #[.pointer (some ⟨w.heap.size, 0, none⟩), .pointer (some ⟨w.heap.size + 1, 0, none⟩)]
    (fun args W => by go_simp) hlen m 0 (fun val w1 u y hu h => (Fr.refl (fun i => i = g) w1 |>.setCell (p := u) (.inl hu) y).own h (fun i hi he => by have := (h.lt i hi).1; omega)) (fun _ A n c h1 h2 h3 => 
      (cl_raw_yes (bs.drop at_) n (by rw [List.length_drop]; omega) A c w.heap.size (w.heap.size + 1) m x _ _ _ h2 (by omega) h3 (by have := HM.out; omega) HM.out (by have := HN.out; omega) (((Blk.new w _ _).alloc _).drew) (by simpa using Blk.drew (Blk.new (w.alloc (.cells #[.int .i64 x] 3)) _ _))).mono ?_) HN.out).mono ?_
  · rintro en w1 ⟨rfl, val, h4, h5, h6⟩
    refine ⟨rfl, val, ?_, h5, ((Fr.refl _ _).drew).trans h6 (fun _ _ h => h)⟩
    exact ⟨h4.1, by
      rcases h4.2 with h | ⟨k, cap, cur, e1, e2, e3⟩
      · exact .inl h
      · exact .inr ⟨k, cap, cur, e1, by simp at e2; omega, e3⟩⟩
  rintro en w' ⟨rfl, h4, h5, val, h6, ⟨_, h7⟩ | ⟨h7, _⟩⟩
  · obtain ⟨A', c', rfl, _⟩ := reads_own h7
    have hc5 : w'.cell? ⟨w.heap.size + 1, 0, none⟩ = some (.slice A' m c') := by rw [h6.cell]; rfl
    have H4 := Lib.hid h4
    have H5 := Lib.hid h5
    have H7 := Lib.hid h7
    clear h4 h5 h6 h7
    go_wp2_with fail
    go_ret
    exact ⟨_, rfl, H7.out, RdStep.of_new2 H4.out H5.out⟩
  · exact absurd rfl h7

set_option maxHeartbeats 400000 in
/-- Raw of more bytes than there are. -/
theorem rd_raw_no (base g : Nat) (v : Value) (bs : List Nat) (at_ : Nat) (x : Int) (w : World) (hR : Rd w base g v bs at_ 0) (hlen : bs.length ≤ 140737488355328) (hN : (bs.length : Int) < at_ + x) :
    Calls Try.prog 25 #[.pointer (some ⟨g, 0, none⟩), .int .i64 x] w fun en w' =>
      en = .returned (.slice none 0 0) ∧ RdStep base g v bs (at_, 2) w w' := by
  have HR := Lib.hid hR
  have HN := Lib.hid hN
  have hle := hR.2.2
  clear hR hN
  go_enter Try.func25, Try.ntmps25
  go_wp2_with fail
  refine (read_with base g (w.heap.size + 1) v (.slice none 0 0) (.slice none 0 0) 23 bs at_ 0 _ ((HR.out.alloc _).alloc _) (by simpa using Blk.new (w.alloc (.cells #[.int .i64 x] 3)) _ _) (by decide) (by decide)
    53 #[.pointer (some ⟨w.heap.size, 0, none⟩), .pointer (some ⟨w.heap.size + 1, 0, none⟩)]
    (fun args W => by go_simp) hlen 0 2 (fun _ A n c h1 h2 h3 => 
      (cl_raw_no A n c w.heap.size (w.heap.size + 1) x _ _ (by have := HN.out; omega) (((Blk.new w _ _).alloc _).drew) (by simpa using Blk.drew (Blk.new (w.alloc (.cells #[.int .i64 x] 3)) _ _))).mono ?_) hle).mono ?_
  · rintro en w1 ⟨rfl, h5, h6⟩
    exact ⟨rfl, h5, ((Fr.refl _ _).drew).trans h6 (fun _ _ h => h)⟩
  rintro en w' ⟨rfl, h4, h6, h5⟩
  have hc5 : w'.cell? ⟨w.heap.size + 1, 0, none⟩ = some (.slice none 0 0) := by rw [h6.cell]; rfl
  have H4 := Lib.hid h4
  have H5 := Lib.hid h5
  clear h4 h5 h6
  go_wp2_with fail
  go_ret
  exact ⟨rfl, RdStep.of_new2 H4.out H5.out⟩

set_option maxHeartbeats 400000 in
/-- Raw where there is an error. -/
theorem rd_raw_err (base g : Nat) (v : Value) (bs : List Nat) (at_ : Nat) (x e : Int) (w : World) (hR : Rd w base g v bs at_ e) (he : e ≠ 0) :
    Calls Try.prog 25 #[.pointer (some ⟨g, 0, none⟩), .int .i64 x] w fun en w' =>
      en = .returned (.slice none 0 0) ∧ RdStep base g v bs (at_, e) w w' := by
  have HR := Lib.hid hR
  have HE := Lib.hid he
  clear hR he
  go_enter Try.func25, Try.ntmps25
  go_wp2_with fail
  refine (read_err g e _ _ (cell_at ((HR.out.alloc _).alloc _)).2.2.1 HE.out).mono ?_
  rintro en w' ⟨rfl, rfl⟩
  go_wp2_with fail
  go_ret
  exact ⟨rfl, (HR.out.alloc _).alloc _, ((Fr.refl _ w).alloc _).alloc _⟩
end Go.Proofs.Ytnhibnjgdkpomaa
