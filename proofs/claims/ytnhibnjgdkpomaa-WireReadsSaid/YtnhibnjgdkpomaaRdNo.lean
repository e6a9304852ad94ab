/-
  What a Reader's calls tell where there is not what they are to read.
-/
import Derived.Test.YtnhibnjgdkpomaaRdFixed
namespace Go.Proofs.Ytnhibnjgdkpomaa
open Go.RowKit Plain

set_option maxHeartbeats 400000 in
theorem cl_signed_err (xs : List Nat) (n : Nat) (hl : xs.length = n) (hx : ∀ x ∈ xs, x < 256) (w : World) (BB : Nat) (A : Option Addr) (c cv : Nat)  (v0 : Value) (ha : Reads w BB 1 A n (BS xs)) (hn : n ≤ 140737488355328)
    (hcv : Blk w cv 3 #[v0]) (E : Nat) (hE : E ≠ 0) (hrs : rs xs = (0, 0, E))  :
    Calls Try.prog 51 #[.slice A n c, .pointer (some ⟨cv, 0, none⟩)] w fun en w1 =>
      en = .returned (.tuple #[.int .i64 ((0 : Nat) : Int), .int .i64 ((E : Nat) : Int)]) ∧ Blk w1 cv 3 #[v0] ∧ Fr (fun i => i = cv) w w1 := by
  have HB := Lib.hid hcv
  have HRS := Lib.hid hrs
  clear hcv hrs
  have hEb : ((E : Int) != 0) = true := by simp; omega
  go_enter Try.func51, Try.ntmps51
  go_wp2_with fail
  refine (rshort_any xs n hl hx w BB A c ha hn).mono ?_
  rintro e w' ⟨he, rfl⟩
  unfold Told at he
  rw [HRS.out] at he
  subst he
  go_wp2_with fail
  go_ret2
  exact ⟨rfl, HB.out, Fr.refl _ _⟩

set_option maxHeartbeats 400000 in
theorem cl_signed_big (xs : List Nat) (n : Nat) (hl : xs.length = n) (hx : ∀ x ∈ xs, x < 256) (w : World) (BB : Nat) (A : Option Addr) (c cv : Nat)  (v0 : Value) (ha : Reads w BB 1 A n (BS xs)) (hn : n ≤ 140737488355328)
    (hcv : Blk w cv 3 #[v0]) (V K : Nat) (hV : 4611686018427387903 < V) (hV9 : V ≤ 9223372036854775807) (hrs : rs xs = (V, K, 0))  :
    Calls Try.prog 51 #[.slice A n c, .pointer (some ⟨cv, 0, none⟩)] w fun en w1 =>
      en = .returned (.tuple #[.int .i64 ((0 : Nat) : Int), .int .i64 ((3 : Nat) : Int)]) ∧ Blk w1 cv 3 #[v0] ∧ Fr (fun i => i = cv) w w1 := by
  have HB := Lib.hid hcv
  have HRS := Lib.hid hrs
  clear hcv hrs
  go_enter Try.func51, Try.ntmps51
  go_wp2_with fail
  refine (rshort_any xs n hl hx w BB A c ha hn).mono ?_
  rintro e w' ⟨he, rfl⟩
  unfold Told at he
  rw [HRS.out] at he
  subst he
  go_wp2_with fail
  go_ret2
  exact ⟨rfl, HB.out, Fr.refl _ _⟩

set_option maxHeartbeats 400000 in
theorem cl_text_err (xs : List Nat) (n : Nat) (hl : xs.length = n) (hx : ∀ x ∈ xs, x < 256) (w : World) (BB : Nat) (A : Option Addr) (c cv : Nat)  (v0 : Value) (ha : Reads w BB 1 A n (BS xs)) (hn : n ≤ 140737488355328)
    (hcv : Blk w cv 9 #[v0]) (E : Nat) (hE : E ≠ 0) (hrs : rs xs = (0, 0, E))  :
    Calls Try.prog 52 #[.slice A n c, .pointer (some ⟨cv, 0, none⟩)] w fun en w1 =>
      en = .returned (.tuple #[.int .i64 ((0 : Nat) : Int), .int .i64 ((E : Nat) : Int)]) ∧ Blk w1 cv 9 #[v0] ∧ Fr (fun i => i = cv) w w1 := by
  have HB := Lib.hid hcv
  have HRS := Lib.hid hrs
  clear hcv hrs
  have hEb : ((E : Int) != 0) = true := by simp; omega
  go_enter Try.func52, Try.ntmps52
  go_wp2_with fail
  refine (rshort_any xs n hl hx w BB A c ha hn).mono ?_
  rintro e w' ⟨he, rfl⟩
  unfold Told at he
  rw [HRS.out] at he
  subst he
  go_wp2_with fail
  go_ret2
  exact ⟨rfl, HB.out, Fr.refl _ _⟩

set_option maxHeartbeats 400000 in
theorem cl_text_big (xs : List Nat) (n : Nat) (hl : xs.length = n) (hx : ∀ x ∈ xs, x < 256) (w : World) (BB : Nat) (A : Option Addr) (c cv : Nat)  (v0 : Value) (ha : Reads w BB 1 A n (BS xs)) (hn : n ≤ 140737488355328)
    (hcv : Blk w cv 9 #[v0]) (S K : Nat) (hK : K ≤ n) (hS : n < K + S) (hS9 : S ≤ 9223372036854775807) (hrs : rs xs = (S, K, 0))  :
    Calls Try.prog 52 #[.slice A n c, .pointer (some ⟨cv, 0, none⟩)] w fun en w1 =>
      en = .returned (.tuple #[.int .i64 ((0 : Nat) : Int), .int .i64 ((2 : Nat) : Int)]) ∧ Blk w1 cv 9 #[v0] ∧ Fr (fun i => i = cv) w w1 := by
  have HB := Lib.hid hcv
  have HRS := Lib.hid hrs
  clear hcv hrs
  go_enter Try.func52, Try.ntmps52
  go_wp2_with fail
  refine (rshort_any xs n hl hx w BB A c ha hn).mono ?_
  rintro e w' ⟨he, rfl⟩
  unfold Told at he
  rw [HRS.out] at he
  subst he
  go_wp2_with fail
  go_ret2
  exact ⟨rfl, HB.out, Fr.refl _ _⟩

set_option maxHeartbeats 400000 in
theorem cl_list_err (xs : List Nat) (n : Nat) (hl : xs.length = n) (hx : ∀ x ∈ xs, x < 256) (w : World) (BB : Nat) (A : Option Addr) (c cv : Nat) (cn : Nat) (most : Int) (v0 : Value) (ha : Reads w BB 1 A n (BS xs)) (hn : n ≤ 140737488355328)
    (hcv : Blk w cv 3 #[v0]) (E : Nat) (hE : E ≠ 0) (hrs : rs xs = (0, 0, E)) (hcn : Blk w cn 3 #[.int .i64 most]) :
    Calls Try.prog 54 #[.slice A n c, .pointer (some ⟨cn, 0, none⟩), .pointer (some ⟨cv, 0, none⟩)] w fun en w1 =>
      en = .returned (.tuple #[.int .i64 ((0 : Nat) : Int), .int .i64 ((E : Nat) : Int)]) ∧ Blk w1 cv 3 #[v0] ∧ Fr (fun i => i = cv) w w1 := by
  have HB := Lib.hid hcv
  have HRS := Lib.hid hrs
  have hcm : w.cell? ⟨cn, 0, none⟩ = some (.int .i64 most) := by rw [hcn.cell]; rfl
  clear hcv hrs
  have hEb : ((E : Int) != 0) = true := by simp; omega
  go_enter Try.func54, Try.ntmps54
  go_wp2_with fail
  refine (rshort_any xs n hl hx w BB A c ha hn).mono ?_
  rintro e w' ⟨he, rfl⟩
  unfold Told at he
  rw [HRS.out] at he
  subst he
  go_wp2_with fail
  go_ret2
  exact ⟨rfl, HB.out, Fr.refl _ _⟩

set_option maxHeartbeats 400000 in
theorem cl_list_most (xs : List Nat) (n : Nat) (hl : xs.length = n) (hx : ∀ x ∈ xs, x < 256) (w : World) (BB : Nat) (A : Option Addr) (c cv : Nat) (cn : Nat) (most : Int) (v0 : Value) (ha : Reads w BB 1 A n (BS xs)) (hn : n ≤ 140737488355328)
    (hcv : Blk w cv 3 #[v0]) (V K : Nat) (hV : most < (V : Int)) (_hV9 : V ≤ 9223372036854775807) (hrs : rs xs = (V, K, 0)) (hcn : Blk w cn 3 #[.int .i64 most]) :
    Calls Try.prog 54 #[.slice A n c, .pointer (some ⟨cn, 0, none⟩), .pointer (some ⟨cv, 0, none⟩)] w fun en w1 =>
      en = .returned (.tuple #[.int .i64 ((0 : Nat) : Int), .int .i64 ((3 : Nat) : Int)]) ∧ Blk w1 cv 3 #[v0] ∧ Fr (fun i => i = cv) w w1 := by
  have HB := Lib.hid hcv
  have HRS := Lib.hid hrs
  have hcm : w.cell? ⟨cn, 0, none⟩ = some (.int .i64 most) := by rw [hcn.cell]; rfl
  clear hcv hrs
  go_enter Try.func54, Try.ntmps54
  go_wp2_with fail
  refine (rshort_any xs n hl hx w BB A c ha hn).mono ?_
  rintro e w' ⟨he, rfl⟩
  unfold Told at he
  rw [HRS.out] at he
  subst he
  go_wp2_with fail
  go_ret2
  exact ⟨rfl, HB.out, Fr.refl _ _⟩

set_option maxHeartbeats 400000 in
theorem cl_list_big (xs : List Nat) (n : Nat) (hl : xs.length = n) (hx : ∀ x ∈ xs, x < 256) (w : World) (BB : Nat) (A : Option Addr) (c cv : Nat) (cn : Nat) (most : Int) (v0 : Value) (ha : Reads w BB 1 A n (BS xs)) (hn : n ≤ 140737488355328)
    (hcv : Blk w cv 3 #[v0]) (V K : Nat) (hV : ¬ most < (V : Int)) (hK : K ≤ n) (hS : n < K + V) (hV9 : V ≤ 9223372036854775807) (hrs : rs xs = (V, K, 0)) (hcn : Blk w cn 3 #[.int .i64 most]) :
    Calls Try.prog 54 #[.slice A n c, .pointer (some ⟨cn, 0, none⟩), .pointer (some ⟨cv, 0, none⟩)] w fun en w1 =>
      en = .returned (.tuple #[.int .i64 ((0 : Nat) : Int), .int .i64 ((2 : Nat) : Int)]) ∧ Blk w1 cv 3 #[v0] ∧ Fr (fun i => i = cv) w w1 := by
  have HB := Lib.hid hcv
  have HRS := Lib.hid hrs
  have hcm : w.cell? ⟨cn, 0, none⟩ = some (.int .i64 most) := by rw [hcn.cell]; rfl
  clear hcv hrs
  go_enter Try.func54, Try.ntmps54
  go_wp2_with fail
  refine (rshort_any xs n hl hx w BB A c ha hn).mono ?_
  rintro e w' ⟨he, rfl⟩
  unfold Told at he
  rw [HRS.out] at he
  subst he
  go_wp2_with fail
  go_ret2
  exact ⟨rfl, HB.out, Fr.refl _ _⟩

set_option maxHeartbeats 400000 in
theorem cl_list_yes (xs : List Nat) (n : Nat) (hl : xs.length = n) (hx : ∀ x ∈ xs, x < 256) (w : World) (BB : Nat) (A : Option Addr) (c cv cn : Nat) (most : Int) (v0 : Value) (ha : Reads w BB 1 A n (BS xs)) (hn : n ≤ 140737488355328)
    (hcv : Blk w cv 3 #[v0]) (hcn : Blk w cn 3 #[.int .i64 most]) (V K : Nat) (hV : ¬ most < (V : Int)) (hS : K + V ≤ n) (hrs : rs xs = (V, K, 0)) :
    Calls Try.prog 54 #[.slice A n c, .pointer (some ⟨cn, 0, none⟩), .pointer (some ⟨cv, 0, none⟩)] w fun en w1 =>
      en = .returned (.tuple #[.int .i64 (K : Int), .int .i64 ((0 : Nat) : Int)]) ∧ Blk w1 cv 3 #[.int .i64 (V : Int)] ∧ Fr (fun i => i = cv) w w1 := by
  have hc : w.cell? ⟨cv, 0, none⟩ = some v0 := by rw [hcv.cell]; rfl
  have hf := hcv.frozen 0
  have hcm : w.cell? ⟨cn, 0, none⟩ = some (.int .i64 most) := by rw [hcn.cell]; rfl
  have HB := Lib.hid hcv
  have HRS := Lib.hid hrs
  clear hcv hrs hcn
  go_enter Try.func54, Try.ntmps54
  go_wp2_with fail
  refine (rshort_any xs n hl hx w BB A c ha hn).mono ?_
  rintro e w' ⟨he, rfl⟩
  unfold Told at he
  rw [HRS.out] at he
  subst he
  go_wp2_with fail
  go_ret2
  exact ⟨rfl, by simpa using HB.out.set_ 0 _, fr_one _⟩

set_option maxHeartbeats 400000 in
theorem cl_fixed_no (A : Option Addr) (n c : Nat) (cn cv m : Nat) (v0 : Value) (w : World) (hm : n < m) (hcn : Blk w cn 3 #[.int .i64 (m : Int)]) (hcv : Blk w cv 43 #[v0]) :
    Calls Try.prog 48 #[.slice A n c, .pointer (some ⟨cn, 0, none⟩), .pointer (some ⟨cv, 0, none⟩)] w fun en w1 =>
      en = .returned (.tuple #[.int .i64 ((0 : Nat) : Int), .int .i64 ((2 : Nat) : Int)]) ∧ Blk w1 cv 43 #[v0] ∧ Fr (fun i => i = cv) w w1 := by
  have hc : w.cell? ⟨cn, 0, none⟩ = some (.int .i64 (m : Int)) := by rw [hcn.cell]; rfl
  have HB := Lib.hid hcv
  clear hcn hcv
  go_enter Try.func48, Try.ntmps48
  go_wp2_with fail
  go_ret2
  exact ⟨rfl, HB.out, Fr.refl _ _⟩

set_option maxHeartbeats 400000 in
theorem rd_signed_err (base g : Nat) (v : Value) (bs : List Nat) (at_ : Nat) (w : World) (hR : Rd w base g v bs at_ 0) (hx : ∀ x ∈ bs, x < 256) (hlen : bs.length ≤ 140737488355328) (E : Nat) (hE : E ≠ 0) (hrs : rs (bs.drop at_) = (0, 0, E)) :
    Calls Try.prog 23 #[.pointer (some ⟨g, 0, none⟩)] w fun en w' => en = .returned (.int .i64 0) ∧ RdStep base g v bs (at_, ((E : Nat) : Int)) w w' := by
  have HR := Lib.hid hR
  have HX := Lib.hid hx
  have HRS := Lib.hid hrs
  have hat := hR.2.2
  clear hR hx hrs
  go_enter Try.func23, Try.ntmps23
  go_wp2_with fail
  refine (read_with base g w.heap.size v (.int .i64 0) (.int .i64 0) 3 bs at_ 0 _ (HR.out.alloc _) (Blk.new w _ _) (by decide) (by decide) 51 #[.pointer (some ⟨w.heap.size, 0, none⟩)]
    (fun args W => by go_simp) hlen 0 (E) (fun _ A n c h1 h2 h3 => (cl_signed_err (bs.drop at_) n (by rw [List.length_drop]; omega) (fun x hx => HX.out x (List.mem_of_mem_drop hx)) _ _ A c w.heap.size _ h2 (by omega) (Blk.new w _ _).drew E hE HRS.out).mono ?_) hat).mono ?_
  · rintro en w1 ⟨rfl, h4, h5⟩
    exact ⟨rfl, h4, ((Fr.refl _ _).drew).trans h5 (fun _ _ h => h)⟩
  rintro en w' ⟨rfl, h4, h5, h6⟩
  have hc5 : w'.cell? ⟨w.heap.size, 0, none⟩ = some (.int .i64 0) := by rw [h5.cell]; rfl
  have hs : stepR at_ 0 0 (E) = (at_, ((E : Nat) : Int)) := by unfold stepR; rw [if_pos rfl, if_neg (by omega)]
  rw [hs] at h4
  have H4 := Lib.hid h4
  have H6 := Lib.hid h6
  clear h4 h5 h6 hs
  go_wp2_with fail
  go_ret
  exact ⟨rfl, RdStep.of_new H4.out H6.out⟩

set_option maxHeartbeats 400000 in
theorem rd_signed_big (base g : Nat) (v : Value) (bs : List Nat) (at_ : Nat) (w : World) (hR : Rd w base g v bs at_ 0) (hx : ∀ x ∈ bs, x < 256) (hlen : bs.length ≤ 140737488355328) (V K : Nat) (hV : 4611686018427387903 < V) (hV9 : V ≤ 9223372036854775807) (hrs : rs (bs.drop at_) = (V, K, 0)) :
    Calls Try.prog 23 #[.pointer (some ⟨g, 0, none⟩)] w fun en w' => en = .returned (.int .i64 0) ∧ RdStep base g v bs (at_, ((3 : Nat) : Int)) w w' := by
  have HR := Lib.hid hR
  have HX := Lib.hid hx
  have HRS := Lib.hid hrs
  have hat := hR.2.2
  clear hR hx hrs
  go_enter Try.func23, Try.ntmps23
  go_wp2_with fail
  refine (read_with base g w.heap.size v (.int .i64 0) (.int .i64 0) 3 bs at_ 0 _ (HR.out.alloc _) (Blk.new w _ _) (by decide) (by decide) 51 #[.pointer (some ⟨w.heap.size, 0, none⟩)]
    (fun args W => by go_simp) hlen 0 (3) (fun _ A n c h1 h2 h3 => (cl_signed_big (bs.drop at_) n (by rw [List.length_drop]; omega) (fun x hx => HX.out x (List.mem_of_mem_drop hx)) _ _ A c w.heap.size _ h2 (by omega) (Blk.new w _ _).drew V K hV hV9 HRS.out).mono ?_) hat).mono ?_
  · rintro en w1 ⟨rfl, h4, h5⟩
    exact ⟨rfl, h4, ((Fr.refl _ _).drew).trans h5 (fun _ _ h => h)⟩
  rintro en w' ⟨rfl, h4, h5, h6⟩
  have hc5 : w'.cell? ⟨w.heap.size, 0, none⟩ = some (.int .i64 0) := by rw [h5.cell]; rfl
  have hs : stepR at_ 0 0 (3) = (at_, ((3 : Nat) : Int)) := by unfold stepR; rw [if_pos rfl, if_neg (by omega)]
  rw [hs] at h4
  have H4 := Lib.hid h4
  have H6 := Lib.hid h6
  clear h4 h5 h6 hs
  go_wp2_with fail
  go_ret
  exact ⟨rfl, RdStep.of_new H4.out H6.out⟩

set_option maxHeartbeats 400000 in
theorem rd_text_err (base g : Nat) (v : Value) (bs : List Nat) (at_ : Nat) (w : World) (hR : Rd w base g v bs at_ 0) (hx : ∀ x ∈ bs, x < 256) (hlen : bs.length ≤ 140737488355328) (E : Nat) (hE : E ≠ 0) (hrs : rs (bs.drop at_) = (0, 0, E)) :
    Calls Try.prog 24 #[.pointer (some ⟨g, 0, none⟩)] w fun en w' => en = .returned (.string ⟨#[]⟩) ∧ RdStep base g v bs (at_, ((E : Nat) : Int)) w w' := by
  have HR := Lib.hid hR
  have HX := Lib.hid hx
  have HRS := Lib.hid hrs
  have hat := hR.2.2
  clear hR hx hrs
  go_enter Try.func24, Try.ntmps24
  go_wp2_with fail
  refine (read_with base g w.heap.size v (.string ⟨#[]⟩) (.string ⟨#[]⟩) 9 bs at_ 0 _ (HR.out.alloc _) (Blk.new w _ _) (by decide) (by decide) 52 #[.pointer (some ⟨w.heap.size, 0, none⟩)]
    (fun args W => by go_simp) hlen 0 (E) (fun _ A n c h1 h2 h3 => (cl_text_err (bs.drop at_) n (by rw [List.length_drop]; omega) (fun x hx => HX.out x (List.mem_of_mem_drop hx)) _ _ A c w.heap.size _ h2 (by omega) (Blk.new w _ _).drew E hE HRS.out).mono ?_) hat).mono ?_
  · rintro en w1 ⟨rfl, h4, h5⟩
    exact ⟨rfl, h4, ((Fr.refl _ _).drew).trans h5 (fun _ _ h => h)⟩
  rintro en w' ⟨rfl, h4, h5, h6⟩
  have hc5 : w'.cell? ⟨w.heap.size, 0, none⟩ = some (.string ⟨#[]⟩) := by rw [h5.cell]; rfl
  have hs : stepR at_ 0 0 (E) = (at_, ((E : Nat) : Int)) := by unfold stepR; rw [if_pos rfl, if_neg (by omega)]
  rw [hs] at h4
  have H4 := Lib.hid h4
  have H6 := Lib.hid h6
  clear h4 h5 h6 hs
  go_wp2_with fail
  go_ret
  exact ⟨rfl, RdStep.of_new H4.out H6.out⟩

set_option maxHeartbeats 400000 in
theorem rd_text_big (base g : Nat) (v : Value) (bs : List Nat) (at_ : Nat) (w : World) (hR : Rd w base g v bs at_ 0) (hx : ∀ x ∈ bs, x < 256) (hlen : bs.length ≤ 140737488355328) (S K : Nat) (hK : at_ + K ≤ bs.length) (hS : bs.length < at_ + (K + S)) (hS9 : S ≤ 9223372036854775807) (hrs : rs (bs.drop at_) = (S, K, 0)) :
    Calls Try.prog 24 #[.pointer (some ⟨g, 0, none⟩)] w fun en w' => en = .returned (.string ⟨#[]⟩) ∧ RdStep base g v bs (at_, ((2 : Nat) : Int)) w w' := by
  have HR := Lib.hid hR
  have HX := Lib.hid hx
  have HRS := Lib.hid hrs
  have hat := hR.2.2
  clear hR hx hrs
  go_enter Try.func24, Try.ntmps24
  go_wp2_with fail
  refine (read_with base g w.heap.size v (.string ⟨#[]⟩) (.string ⟨#[]⟩) 9 bs at_ 0 _ (HR.out.alloc _) (Blk.new w _ _) (by decide) (by decide) 52 #[.pointer (some ⟨w.heap.size, 0, none⟩)]
    (fun args W => by go_simp) hlen 0 (2) (fun _ A n c h1 h2 h3 => (cl_text_big (bs.drop at_) n (by rw [List.length_drop]; omega) (fun x hx => HX.out x (List.mem_of_mem_drop hx)) _ _ A c w.heap.size _ h2 (by omega) (Blk.new w _ _).drew S K (by omega) (by omega) hS9 HRS.out).mono ?_) hat).mono ?_
  · rintro en w1 ⟨rfl, h4, h5⟩
    exact ⟨rfl, h4, ((Fr.refl _ _).drew).trans h5 (fun _ _ h => h)⟩
  rintro en w' ⟨rfl, h4, h5, h6⟩
  have hc5 : w'.cell? ⟨w.heap.size, 0, none⟩ = some (.string ⟨#[]⟩) := by rw [h5.cell]; rfl
  have hs : stepR at_ 0 0 (2) = (at_, ((2 : Nat) : Int)) := by unfold stepR; rw [if_pos rfl, if_neg (by omega)]
  rw [hs] at h4
  have H4 := Lib.hid h4
  have H6 := Lib.hid h6
  clear h4 h5 h6 hs
  go_wp2_with fail
  go_ret
  exact ⟨rfl, RdStep.of_new H4.out H6.out⟩

set_option maxHeartbeats 400000 in
theorem rd_list_err (base g : Nat) (v : Value) (bs : List Nat) (at_ : Nat) (most : Int) (w : World) (hR : Rd w base g v bs at_ 0) (hx : ∀ x ∈ bs, x < 256) (hlen : bs.length ≤ 140737488355328) (E : Nat) (hE : E ≠ 0) (hrs : rs (bs.drop at_) = (0, 0, E)) :
    Calls Try.prog 29 #[.pointer (some ⟨g, 0, none⟩), .int .i64 most] w fun en w' => en = .returned (.int .i64 0) ∧ RdStep base g v bs (at_, ((E : Nat) : Int)) w w' := by
  have HR := Lib.hid hR
  have HX := Lib.hid hx
  have HRS := Lib.hid hrs
  have hat := hR.2.2
  clear hR hx hrs
  go_enter Try.func29, Try.ntmps29
  go_wp2_with fail
  refine (read_with base g (w.heap.size + 1) v (.int .i64 0) (.int .i64 0) 3 bs at_ 0 _ ((HR.out.alloc _).alloc _) (by simpa using Blk.new (w.alloc (.cells #[.int .i64 most] 3)) _ _) (by decide) (by decide) 54 #[.pointer (some ⟨w.heap.size, 0, none⟩), .pointer (some ⟨w.heap.size + 1, 0, none⟩)]
    (fun args W => by go_simp) hlen 0 (E) (fun _ A n c h1 h2 h3 => (cl_list_err (bs.drop at_) n (by rw [List.length_drop]; omega) (fun x hx => HX.out x (List.mem_of_mem_drop hx)) _ _ A c (w.heap.size + 1) w.heap.size most _ h2 (by omega) (by simpa using Blk.drew (Blk.new (w.alloc (.cells #[.int .i64 most] 3)) _ _)) E hE HRS.out (((Blk.new w _ _).alloc _).drew)).mono ?_) hat).mono ?_
  · rintro en w1 ⟨rfl, h4, h5⟩
    exact ⟨rfl, h4, ((Fr.refl _ _).drew).trans h5 (fun _ _ h => h)⟩
  rintro en w' ⟨rfl, h4, h5, h6⟩
  have hc5 : w'.cell? ⟨w.heap.size + 1, 0, none⟩ = some (.int .i64 0) := by rw [h5.cell]; rfl
  have hs : stepR at_ 0 0 (E) = (at_, ((E : Nat) : Int)) := by unfold stepR; rw [if_pos rfl]; first | rw [if_pos rfl] | rw [if_neg (by omega)]
  rw [hs] at h4
  have H4 := Lib.hid h4
  have H6 := Lib.hid h6
  clear h4 h5 h6 hs
  go_wp2_with fail
  go_ret
  exact ⟨rfl, RdStep.of_new2 H4.out H6.out⟩

set_option maxHeartbeats 400000 in
theorem rd_list_most (base g : Nat) (v : Value) (bs : List Nat) (at_ : Nat) (most : Int) (w : World) (hR : Rd w base g v bs at_ 0) (hx : ∀ x ∈ bs, x < 256) (hlen : bs.length ≤ 140737488355328) (V K : Nat) (hV : most < (V : Int)) (hV9 : V ≤ 9223372036854775807) (hrs : rs (bs.drop at_) = (V, K, 0)) :
    Calls Try.prog 29 #[.pointer (some ⟨g, 0, none⟩), .int .i64 most] w fun en w' => en = .returned (.int .i64 0) ∧ RdStep base g v bs (at_, ((3 : Nat) : Int)) w w' := by
  have HR := Lib.hid hR
  have HX := Lib.hid hx
  have HRS := Lib.hid hrs
  have hat := hR.2.2
  clear hR hx hrs
  go_enter Try.func29, Try.ntmps29
  go_wp2_with fail
  refine (read_with base g (w.heap.size + 1) v (.int .i64 0) (.int .i64 0) 3 bs at_ 0 _ ((HR.out.alloc _).alloc _) (by simpa using Blk.new (w.alloc (.cells #[.int .i64 most] 3)) _ _) (by decide) (by decide) 54 #[.pointer (some ⟨w.heap.size, 0, none⟩), .pointer (some ⟨w.heap.size + 1, 0, none⟩)]
    (fun args W => by go_simp) hlen 0 (3) (fun _ A n c h1 h2 h3 => (cl_list_most (bs.drop at_) n (by rw [List.length_drop]; omega) (fun x hx => HX.out x (List.mem_of_mem_drop hx)) _ _ A c (w.heap.size + 1) w.heap.size most _ h2 (by omega) (by simpa using Blk.drew (Blk.new (w.alloc (.cells #[.int .i64 most] 3)) _ _)) V K hV hV9 HRS.out (((Blk.new w _ _).alloc _).drew)).mono ?_) hat).mono ?_
  · rintro en w1 ⟨rfl, h4, h5⟩
    exact ⟨rfl, h4, ((Fr.refl _ _).drew).trans h5 (fun _ _ h => h)⟩
  rintro en w' ⟨rfl, h4, h5, h6⟩
  have hc5 : w'.cell? ⟨w.heap.size + 1, 0, none⟩ = some (.int .i64 0) := by rw [h5.cell]; rfl
  have hs : stepR at_ 0 0 (3) = (at_, ((3 : Nat) : Int)) := by unfold stepR; rw [if_pos rfl]; first | rw [if_pos rfl] | rw [if_neg (by omega)]
  rw [hs] at h4
  have H4 := Lib.hid h4
  have H6 := Lib.hid h6
  clear h4 h5 h6 hs
  go_wp2_with fail
  go_ret
  exact ⟨rfl, RdStep.of_new2 H4.out H6.out⟩

set_option maxHeartbeats 400000 in
theorem rd_list_big (base g : Nat) (v : Value) (bs : List Nat) (at_ : Nat) (most : Int) (w : World) (hR : Rd w base g v bs at_ 0) (hx : ∀ x ∈ bs, x < 256) (hlen : bs.length ≤ 140737488355328) (V K : Nat) (hV : ¬ most < (V : Int)) (hK : at_ + K ≤ bs.length) (hS : bs.length < at_ + (K + V)) (hV9 : V ≤ 9223372036854775807) (hrs : rs (bs.drop at_) = (V, K, 0)) :
    Calls Try.prog 29 #[.pointer (some ⟨g, 0, none⟩), .int .i64 most] w fun en w' => en = .returned (.int .i64 0) ∧ RdStep base g v bs (at_, ((2 : Nat) : Int)) w w' := by
  have HR := Lib.hid hR
  have HX := Lib.hid hx
  have HRS := Lib.hid hrs
  have hat := hR.2.2
  clear hR hx hrs
  go_enter Try.func29, Try.ntmps29
  go_wp2_with fail
  refine (read_with base g (w.heap.size + 1) v (.int .i64 0) (.int .i64 0) 3 bs at_ 0 _ ((HR.out.alloc _).alloc _) (by simpa using Blk.new (w.alloc (.cells #[.int .i64 most] 3)) _ _) (by decide) (by decide) 54 #[.pointer (some ⟨w.heap.size, 0, none⟩), .pointer (some ⟨w.heap.size + 1, 0, none⟩)]
    (fun args W => by go_simp) hlen 0 (2) (fun _ A n c h1 h2 h3 => (cl_list_big (bs.drop at_) n (by rw [List.length_drop]; omega) (fun x hx => HX.out x (List.mem_of_mem_drop hx)) _ _ A c (w.heap.size + 1) w.heap.size most _ h2 (by omega) (by simpa using Blk.drew (Blk.new (w.alloc (.cells #[.int .i64 most] 3)) _ _)) V K (by omega) (by omega) (by omega) hV9 HRS.out (((Blk.new w _ _).alloc _).drew)).mono ?_) hat).mono ?_
  · rintro en w1 ⟨rfl, h4, h5⟩
    exact ⟨rfl, h4, ((Fr.refl _ _).drew).trans h5 (fun _ _ h => h)⟩
  rintro en w' ⟨rfl, h4, h5, h6⟩
  have hc5 : w'.cell? ⟨w.heap.size + 1, 0, none⟩ = some (.int .i64 0) := by rw [h5.cell]; rfl
  have hs : stepR at_ 0 0 (2) = (at_, ((2 : Nat) : Int)) := by unfold stepR; rw [if_pos rfl]; first | rw [if_pos rfl] | rw [if_neg (by omega)]
  rw [hs] at h4
  have H4 := Lib.hid h4
  have H6 := Lib.hid h6
  clear h4 h5 h6 hs
  go_wp2_with fail
  go_ret
  exact ⟨rfl, RdStep.of_new2 H4.out H6.out⟩

set_option maxHeartbeats 400000 in
theorem rd_list_yes (base g : Nat) (v : Value) (bs : List Nat) (at_ : Nat) (most : Int) (w : World) (hR : Rd w base g v bs at_ 0) (hx : ∀ x ∈ bs, x < 256) (hlen : bs.length ≤ 140737488355328) (V K : Nat) (hV : ¬ most < (V : Int)) (hS : at_ + (K + V) ≤ bs.length) (hrs : rs (bs.drop at_) = (V, K, 0)) :
    Calls Try.prog 29 #[.pointer (some ⟨g, 0, none⟩), .int .i64 most] w fun en w' => en = .returned (.int .i64 (V : Int)) ∧ RdStep base g v bs (at_ + K, 0) w w' := by
  have HR := Lib.hid hR
  have HX := Lib.hid hx
  have HRS := Lib.hid hrs
  have hat := hR.2.2
  clear hR hx hrs
  go_enter Try.func29, Try.ntmps29
  go_wp2_with fail
  refine (read_with base g (w.heap.size + 1) v (.int .i64 0) (.int .i64 (V : Int)) 3 bs at_ 0 _ ((HR.out.alloc _).alloc _) (by simpa using Blk.new (w.alloc (.cells #[.int .i64 most] 3)) _ _) (by decide) (by decide) 54 #[.pointer (some ⟨w.heap.size, 0, none⟩), .pointer (some ⟨w.heap.size + 1, 0, none⟩)]
    (fun args W => by go_simp) hlen K (0) (fun _ A n c h1 h2 h3 => (cl_list_yes (bs.drop at_) n (by rw [List.length_drop]; omega) (fun x hx => HX.out x (List.mem_of_mem_drop hx)) _ _ A c (w.heap.size + 1) w.heap.size most _ h2 (by omega) (by simpa using Blk.drew (Blk.new (w.alloc (.cells #[.int .i64 most] 3)) _ _)) (((Blk.new w _ _).alloc _).drew) V K (by omega) (by omega) HRS.out).mono ?_) (by omega)).mono ?_
  · rintro en w1 ⟨rfl, h4, h5⟩
    exact ⟨rfl, h4, ((Fr.refl _ _).drew).trans h5 (fun _ _ h => h)⟩
  rintro en w' ⟨rfl, h4, h5, h6⟩
  have hc5 : w'.cell? ⟨w.heap.size + 1, 0, none⟩ = some (.int .i64 (V : Int)) := by rw [h5.cell]; rfl
  have hs : stepR at_ 0 K (0) = (at_ + K, 0) := by unfold stepR; rw [if_pos rfl]; first | rw [if_pos rfl] | rw [if_neg (by omega)]
  rw [hs] at h4
  have H4 := Lib.hid h4
  have H6 := Lib.hid h6
  clear h4 h5 h6 hs
  go_wp2_with fail
  go_ret
  exact ⟨rfl, RdStep.of_new2 H4.out H6.out⟩

set_option maxHeartbeats 400000 in
theorem rd_fixed_no (base g : Nat) (v : Value) (bs : List Nat) (at_ m : Nat) (w : World) (hR : Rd w base g v bs at_ 0) (hlen : bs.length ≤ 140737488355328) (hm : Wide m) (hN : bs.length < at_ + m) :
    Calls Try.prog 21 #[.pointer (some ⟨g, 0, none⟩), .int .i64 (m : Int)] w fun en w' =>
      en = .returned (.int .u64 0) ∧ RdStep base g v bs (at_, ((2 : Nat) : Int)) w w' := by
  have HR := Lib.hid hR
  have HM := Lib.hid hm
  have hat := hR.2.2
  clear hR hm
  go_enter Try.func21, Try.ntmps21
  go_wp2_with fail
  refine (isWidth_yes m _ HM.out).mono ?_
  rintro en w1 ⟨rfl, rfl⟩
  go_wp2_with fail
  refine (read_with base g (w.heap.size + 1) v (.int .u64 0) (.int .u64 0) 43 bs at_ 0 _ ((HR.out.alloc _).alloc _) (by simpa using Blk.new (w.alloc (.cells #[.int .i64 (m : Int)] 3)) _ _) (by decide) (by decide)
    48 #[.pointer (some ⟨w.heap.size, 0, none⟩), .pointer (some ⟨w.heap.size + 1, 0, none⟩)]
    (fun args W => by go_simp) hlen 0 2 (fun _ A n c h1 h2 h3 => 
      (cl_fixed_no A n c w.heap.size (w.heap.size + 1) m _ _ (by omega) (((Blk.new w _ _).alloc _).drew) (by simpa using Blk.drew (Blk.new (w.alloc (.cells #[.int .i64 (m : Int)] 3)) _ _))).mono ?_) hat).mono ?_
  · rintro en w1 ⟨rfl, h4, h5⟩
    exact ⟨rfl, h4, ((Fr.refl _ _).drew).trans h5 (fun _ _ h => h)⟩
  rintro en w' ⟨rfl, h4, h6, h5⟩
  have hc5 : w'.cell? ⟨w.heap.size + 1, 0, none⟩ = some (.int .u64 0) := by rw [h6.cell]; rfl
  have hs : stepR at_ 0 0 2 = (at_, ((2 : Nat) : Int)) := by unfold stepR; rw [if_pos rfl, if_neg (by omega)]
  rw [hs] at h4
  have H4 := Lib.hid h4
  have H5 := Lib.hid h5
  clear h4 h5 h6 hs
  go_wp2_with fail
  go_ret
  exact ⟨rfl, RdStep.of_new2 H4.out H5.out⟩
end Go.Proofs.Ytnhibnjgdkpomaa
