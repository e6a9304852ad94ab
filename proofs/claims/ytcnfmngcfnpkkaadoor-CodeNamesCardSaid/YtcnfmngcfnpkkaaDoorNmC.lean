
/-
  Show of the program and of the document.
-/
import Derived.Test.YtcnfmngcfnpkkaaDoorNmB
import Derived.Test.YtcnfmngcfnpkkaaDoorNmD
import Derived.Test.YtcnfmngcfnpkkaaDoorNmShelf
import Derived.Test.YtcnfmngcfnpkkaaDoorMayD
import Derived.WalkSmall
set_option linter.unusedVariables false
set_option linter.unusedSimpArgs false
namespace Go.Proofs.YtcnfmngcfnpkkaaDoor
open Go.RowKit Plain

/-- The listed variables. -/
structure NmW (w : World) : Prop where
  nm : NmV w
  tab : Lib.TabIs Tryd.prog w "internal/strconv.uint64pow10" .u64 Lib.pow10Tab
  sz : 1 < w.heap.size
theorem gPow : Tryd.prog.globalNamed "internal/strconv.uint64pow10" = some 1 := by kernel_rfl
theorem NmW.below {w w' : World} (h : NmW w) (hb : Below w.heap.size w w') : NmW w' :=
  ⟨h.nm.below hb, var?_below hb gPow (by have := h.sz; omega) h.tab, Nat.lt_of_lt_of_le h.sz hb.size⟩
theorem below_grow (w : World) (k : Nat) (os : Array Obj) : Below w.heap.size w (Go.Sort.grow (w.drewN k) os) :=
  ⟨rfl, rfl, rfl, by simp [Go.Sort.grow], fun i hi => by show (w.heap ++ os)[i]? = w.heap[i]?; exact Array.getElem?_append_left hi⟩
theorem itoa_any (n : Int) (w : World) (h : NmW w) (h1 : -9223372036854775808 ≤ n) (h2 : n ≤ 9223372036854775807) :
    Calls Tryd.prog 13 #[.int .i64 n] w fun e w' => e = .returned (.string (decB n)) ∧ Below w.heap.size w w' := by
  refine (Tryd.strconv_Itoa n h1 h2 w h.tab).mono ?_
  rintro e w' ⟨rfl, k, os, rfl⟩
  exact ⟨by rw [decB_itoa n h1 h2], below_grow w k os⟩
theorem run_index_rule (arr : Array Value) (k : Nat) (v : Value) (w : World) (hk : k < 27) (hv : arr[k]? = some v) (hi : (Tryd.prog.info? 48).map (·.size) = some 1) :
    (Instr.index 49 (.agg arr) (.int .i64 (k : Int))).run Tryd.prog w = .ok v w := by
  have h0 : 0 ≤ (k : Int) ∧ (k : Int) < 27 := by omega
  have hu : Tryd.prog.underlying 49 = some (.array 27 48) := Tryd.underlying49
  have hu2 := Tryd.underlying48
  cases hq : Tryd.prog.info? 48 with
  | none => simp [hq] at hi
  | some i =>
    have hs : i.size = 1 := by simpa [hq] using hi
    simp [Instr.index, run_underlying hu, asIntOf, h0, sizeOf, typeInfo, hq, hs, go_sem, part, isAgg, run_underlying hu2, hk, hv]
theorem ne_nil_nil (w : World) : (binOp BinOp.neq 48 .nilFunc .nilFunc).run Tryd.prog w = .ok (.bool false) w := by kernel_rfl
theorem ne_func_nil (fn : Fn) (first captured : Array Value) (w : World) : (binOp BinOp.neq 48 (.func fn first captured) .nilFunc).run Tryd.prog w = .ok (.bool true) w := by kernel_rfl
set_option maxHeartbeats 1000000 in
theorem hasA_any (op : Int) (w : World) : Calls Tryd.prog 12 #[.int .i64 op] w fun e w' => e = .returned (.bool (asks op)) ∧ Below w.heap.size w w' := by
  by_cases hn : 0 ≤ op ∧ op ≤ 26
  · have hw : withinB op 0 26 = true := by unfold withinB; simp; omega
    have HW := Lib.hid hw
    obtain ⟨o, rfl⟩ := Int.eq_ofNat_of_zero_le hn.1
    have ho : o < 27 := by omega
    have ho2 : (o : Int) < 27 := by omega
    have ho0 : (0 : Int) ≤ (o : Int) := by omega
    clear hw hn
    have q1 := ne_nil_nil
    have q2 := ne_func_nil
    go_enter Tryd.func12, Tryd.ntmps12
    go_wp2_with fail
    refine (isOp_any _ _).mono ?_
    rintro e w' ⟨rfl, rfl⟩
    rw [HW.out]
    go_wp2_with fail
    refine (rules_any none none none none none none 0 0 0 0 0 0 0 0 0 0 0 0 0 0 0 w (by omega)).mono ?_
    rintro e w1 ⟨arr, rfl, hsz, hat, hb⟩
    obtain ⟨v, hv, hr⟩ := hat o ho
    have hix := fun W => run_index_rule arr o v W ho hv (by kernel_rfl)
    have HB := Lib.hid hb
    clear hat hb hv hsz
    rcases hr with ⟨ho0, rfl⟩ | ⟨ho0, has, rfl⟩ | ⟨ho0, has, g, rfl, hg⟩
    · have HA : Hid (asks (o : Int) = true) := Lib.hid (by rw [ho0]; decide)
      clear ho0
      go_wp2_with fail
      go_ret
      exact ⟨ret_bool HA.out.symm, HB.out⟩
    · have HA := Lib.hid has
      clear has ho0
      go_wp2_with fail
      go_ret
      exact ⟨ret_bool HA.out.symm, HB.out⟩
    · have HA := Lib.hid has
      clear has ho0 hg
      go_wp2_with fail
      go_ret
      exact ⟨ret_bool HA.out.symm, HB.out⟩
  · have hw : withinB op 0 26 = false := by unfold withinB; simp; omega
    have HW := Lib.hid hw
    have HA : Hid (asks op = false) := Lib.hid (by unfold asks; simp; omega)
    clear hw hn
    go_enter Tryd.func12, Tryd.ntmps12
    go_wp2_with fail
    refine (isOp_any _ _).mono ?_
    rintro e w' ⟨rfl, rfl⟩
    rw [HW.out]
    go_wp2_with fail
    go_ret
    exact ⟨ret_bool HA.out.symm, Below.refl _ _⟩
namespace Plain
/-- An instruction's text. -/
def showL (op a : Int) : List UInt8 := if asks op = true then nameB op ++ ([32] ++ Lib.itoa a) else nameB op
end Plain
theorem nameB_len (n : Int) : (nameB n).length ≤ 9 := by
  by_cases hn : 0 ≤ n ∧ n ≤ 26
  · obtain ⟨k, rfl, hk, hat⟩ := nmB_at n hn.1 hn.2
    have hm := List.mem_of_getElem? hat
    have key : ∀ l ∈ nmB, l.length ≤ 9 := by decide
    exact key _ hm
  · unfold nameB
    rw [if_neg hn]
    simp
theorem itoa_any2 (n : Int) (w : World) (h : NmW w) (h1 : -9223372036854775808 ≤ n) (h2 : n ≤ 9223372036854775807) :
    Calls Tryd.prog 13 #[.int .i64 n] w fun e w' => e = .returned (.string ⟨(Lib.itoa n).toArray⟩) ∧ Below w.heap.size w w' := by
  rw [← decB_itoa n h1 h2]
  exact itoa_any n w h h1 h2
theorem dec_any2 (n : Int) (w : World) (h1 : -9223372036854775808 ≤ n) (h2 : n ≤ 9223372036854775807) :
    Calls Tryd.prog 15 #[.int .i64 n] w fun e w' => e = .returned (.string ⟨(Lib.itoa n).toArray⟩) ∧ Below w.heap.size w w' := by
  rw [← decB_itoa n h1 h2]
  exact dec_any n w h1 h2
theorem run_add (a b : List UInt8) (w : World) (h : a.length + b.length ≤ 1000) : (binOp BinOp.add 9 (.string ⟨a.toArray⟩) (.string ⟨b.toArray⟩)).run Tryd.prog w = .ok (.string ⟨(a ++ b).toArray⟩) w := by
  rw [← join_bytes]
  exact run_string_add_sum (P := Tryd.prog) (w := w) ⟨a.toArray⟩ ⟨b.toArray⟩ (by rw [size_bytes, size_bytes]; omega)
set_option maxHeartbeats 1000000 in
theorem showP_any (op a : Int) (w : World) (h : NmW w) (h1 : -9223372036854775808 ≤ a) (h2 : a ≤ 9223372036854775807) :
    Calls Tryd.prog 8 #[.agg #[.int .i64 op, .int .i64 a]] w fun e w' => e = .returned (.string ⟨(showL op a).toArray⟩) ∧ Below w.heap.size w w' := by
  have hb1 := (Below.refl w.heap.size w).alloc (Nat.le_refl _) (.cells #[.int .i64 op, .int .i64 a] 23)
  have hn1 := h.below hb1
  have hbx := Blk.new w 23 #[.int .i64 op, .int .i64 a]
  have hnl := nameB_len op
  have hil := itoa_len a h1 h2
  have HN1 := Lib.hid hn1; have HB1 := Lib.hid hb1; have HBX := Lib.hid hbx
  clear hn1 hb1 hbx h
  go_enter Tryd.func8, Tryd.ntmps8
  go_upto_region 1 with fail
  generalize w.alloc _ = W at *
  have x0 : W.cell? ⟨w.heap.size, 0, none⟩ = some (.int .i64 op) := (HBX.out.cell 0).trans rfl
  have x1 : W.cell? ⟨w.heap.size, 1, none⟩ = some (.int .i64 a) := (HBX.out.cell 1).trans rfl
  go_wp2_with fail
  refine (name_any op _ HN1.out.nm).mono ?_
  rintro e w' ⟨rfl, rfl⟩
  go_wp2_with fail
  refine (hasA_any op _).mono ?_
  rintro e w2 ⟨rfl, hb2⟩
  have y1 := (hb2.cell (p := ⟨w.heap.size, 1, none⟩) HBX.out.lt).trans x1
  have hn2 := HN1.out.below hb2
  have hb3 := HB1.out.trans (hb2.mono HB1.out.size)
  have HN2 := Lib.hid hn2; have HB3 := Lib.hid hb3
  clear hb2 hn2 hb3 x0 x1
  cases ha : asks op
  · have HS : Hid (showL op a = nameB op) := Lib.hid (by unfold showL; rw [ha]; rfl)
    clear ha
    go_wp2_with fail
    go_ret
    exact ⟨by rw [HS.out]; rfl, HB3.out⟩
  · have HS : Hid (showL op a = nameB op ++ ([32] ++ Lib.itoa a)) := Lib.hid (by unfold showL; rw [if_pos ha])
    clear ha
    have hit := itoa_any2 a w2 HN2.out h1 h2
    generalize Lib.itoa a = ds at *
    generalize nameB op = nb at *
    have hz1 : (⟨#[32]⟩ : ByteArray).size = 1 := rfl
    have ha1 := fun W => run_string_add_sum (P := Tryd.prog) (w := W) ⟨#[32]⟩ ⟨ds.toArray⟩ (by rw [hz1, size_bytes]; omega)
    have ha2 := fun W => run_string_add_sum (P := Tryd.prog) (w := W) ⟨nb.toArray⟩ (⟨#[32]⟩ ++ ⟨ds.toArray⟩) (by rw [ByteArray.size_append, hz1, size_bytes, size_bytes]; omega)
    clear hz1
    have HIT := Lib.hid hit
    clear hit
    go_wp2_with fail
    refine HIT.out.mono ?_
    rintro e w4 ⟨rfl, hb4⟩
    go_wp2_with fail
    go_ret
    exact ⟨by rw [HS.out, ← join_bytes, ← join_bytes]; rfl, HB3.out.trans (hb4.mono HB3.out.size)⟩
set_option maxHeartbeats 2000000 in
theorem refShow_any (op a : Int) (w : World) (h1 : -9223372036854775808 ≤ a) (h2 : a ≤ 9223372036854775807) :
    Calls Tryd.prog 9 #[.agg #[.int .i64 op, .int .i64 a]] w fun e w' => e = .returned (.string ⟨(showL op a).toArray⟩) ∧ Below w.heap.size w w' := by
  have hb1 := (Below.refl w.heap.size w).alloc (Nat.le_refl _) (.cells #[.int .i64 op, .int .i64 a] 23)
  have hbx := Blk.new w 23 #[.int .i64 op, .int .i64 a]
  have hnl := nameB_len op
  have hil := itoa_len a h1 h2
  have HB1 := Lib.hid hb1; have HBX := Lib.hid hbx
  clear hb1 hbx
  go_enter Tryd.func9, Tryd.ntmps9
  go_upto_region 1 with fail
  generalize w.alloc _ = W at *
  have x0 : W.cell? ⟨w.heap.size, 0, none⟩ = some (.int .i64 op) := (HBX.out.cell 0).trans rfl
  have x1 : W.cell? ⟨w.heap.size, 1, none⟩ = some (.int .i64 a) := (HBX.out.cell 1).trans rfl
  go_wp2_with fail
  refine (asks_any op _).mono ?_
  rintro e w' ⟨rfl, rfl⟩
  cases ha : asks op
  · have HS : Hid (showL op a = nameB op) := Lib.hid (by unfold showL; rw [ha]; rfl)
    clear ha
    go_wp2_with fail
    refine (refName_any op _).mono ?_
    rintro e w4 ⟨rfl, hb4⟩
    go_wp2_with fail
    go_ret
    exact ⟨by rw [HS.out]; rfl, HB1.out.trans (hb4.mono HB1.out.size)⟩
  · have HS : Hid (showL op a = nameB op ++ ([32] ++ Lib.itoa a)) := Lib.hid (by unfold showL; rw [if_pos ha])
    clear ha
    have hit := fun W => dec_any2 a W h1 h2
    have hnm := fun W => refName_any op W
    generalize Lib.itoa a = ds at *
    generalize nameB op = nb at *
    have hz1 : (⟨#[32]⟩ : ByteArray).size = 1 := rfl
    have ha1 := fun W => run_string_add_sum (P := Tryd.prog) (w := W) ⟨nb.toArray⟩ ⟨#[32]⟩ (by rw [hz1, size_bytes]; omega)
    have ha2 := fun W => run_string_add_sum (P := Tryd.prog) (w := W) (⟨nb.toArray⟩ ++ ⟨#[32]⟩) ⟨ds.toArray⟩ (by rw [ByteArray.size_append, hz1, size_bytes, size_bytes]; omega)
    clear hz1
    have hxl : w.heap.size < W.heap.size := HBX.out.lt
    have hke : ∀ W' w4, Below W.heap.size W W' → Below W'.heap.size W' w4 → Hid (Below W.heap.size W w4) ∧ (w4.cell? ⟨w.heap.size, 0, none⟩ = some (.int .i64 op) ∧ w4.cell? ⟨w.heap.size, 1, none⟩ = some (.int .i64 a)) := fun W' w4 h1 h2 => by
      have hb := h1.trans (h2.mono h1.size)
      exact ⟨Lib.hid hb, (hb.cell (p := ⟨w.heap.size, 0, none⟩) hxl).trans x0, (hb.cell (p := ⟨w.heap.size, 1, none⟩) hxl).trans x1⟩
    have hit2 : ∀ W', Below W.heap.size W W' → Calls Tryd.prog 15 #[.int .i64 a] W' fun e w4 => e = .returned (.string ⟨ds.toArray⟩) ∧ Hid (Below W.heap.size W w4) ∧ (w4.cell? ⟨w.heap.size, 0, none⟩ = some (.int .i64 op) ∧ w4.cell? ⟨w.heap.size, 1, none⟩ = some (.int .i64 a)) := fun W' hb => (hit W').mono fun e w4 hq => ⟨hq.1, hke W' w4 hb hq.2⟩
    have hnm2 : ∀ W', Below W.heap.size W W' → Calls Tryd.prog 7 #[.int .i64 op] W' fun e w4 => e = .returned (.string ⟨nb.toArray⟩) ∧ Hid (Below W.heap.size W w4) ∧ (w4.cell? ⟨w.heap.size, 0, none⟩ = some (.int .i64 op) ∧ w4.cell? ⟨w.heap.size, 1, none⟩ = some (.int .i64 a)) := fun W' hb => (hnm W').mono fun e w4 hq => ⟨hq.1, hke W' w4 hb hq.2⟩
    have HIT := Lib.hid hit2; have HNM := Lib.hid hnm2
    have hbd : Below W.heap.size W W := Below.refl _ _
    have HBA := Lib.hid hbd
    clear hit hnm hit2 hnm2 hke hbd hxl
    go_upto_region 3 with fail
    go_region_held3 (fun w' => w'.cell? ⟨w.heap.size, 0, none⟩ = some (.int .i64 op) ∧ w'.cell? ⟨w.heap.size, 1, none⟩ = some (.int .i64 a))
      (first | with_reducible exact G3 | with_reducible exact ⟨x0, x1⟩ | go_keep)
      (first
        | (go_at_call 7; (with_reducible refine (HNM.out _ (by first | with_reducible exact HBA.out | with_reducible exact HBA.out.drew | with_reducible exact Below.refl _ _ | exact (Below.refl _ _).drew)).mono ?_); (rintro e w4 ⟨rfl, HBA, G3⟩))
        | (go_at_call 15; (with_reducible refine (HIT.out _ (by first | with_reducible exact HBA.out | with_reducible exact HBA.out.drew | with_reducible exact Below.refl _ _ | exact (Below.refl _ _).drew)).mono ?_); (rintro e w4 ⟨rfl, HBA, G3⟩))
        | fail)
    all_goals
      go_wp2_with fail
      go_ret
      exact ⟨by rw [HS.out, ← List.append_assoc, ← join_bytes, ← join_bytes]; rfl, HB1.out.trans (HBA.out.mono HB1.out.size)⟩
end Go.Proofs.YtcnfmngcfnpkkaaDoor
