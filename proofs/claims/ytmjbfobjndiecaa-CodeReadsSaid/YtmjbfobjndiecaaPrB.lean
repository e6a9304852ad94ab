
/-
  What the document's things, instrOf, all, choice and instr do.
-/
import Derived.Test.YtmjbfobjndiecaaPrA
import Derived.Test.YtmjbfobjndiecaaPrM
import Derived.Test.YtmjbfobjndiecaaRaw
namespace Go.Proofs.Ytmjbfobjndiecaa
open Go.RowKit Plain

theorem info_int : (Try.prog.info? 3).map (fun i => (i.zero, i.size, i.bytes)) = some (some (.int .i64 0), 1, 8) := by kernel_rfl

theorem things_snoc (l : List Int) (to : Int) (k : Nat) (x : Int) (hx : l[k]? = some x) (h4 : k < 4) (h0 : 0 ≤ to) : things (l.take k) to ++ [around x (to + 1)] = things (l.take (k + 1)) to := by
  unfold things
  rw [if_neg (by omega), if_neg (by omega), List.take_take, List.take_take, Nat.min_eq_right (by omega), Nat.min_eq_right (by omega), List.take_add_one, hx]
  simp
theorem things_take (l : List Int) (to : Int) (k : Nat) (h : l.length ≤ k ∨ 4 ≤ k ∨ to < 0) : things (l.take k) to = things l to := by
  unfold things
  split
  · rfl
  · rcases h with h | h | h
    · rw [List.take_of_length_le h]
    · rw [List.take_take, Nat.min_eq_left h]
    · omega

def ThRel (base : Nat) (l : List Int) (to : Int) (w : World) (v s : Value) (wr : World) : Prop :=
  ∃ k : Nat, k ≤ l.length ∧ k ≤ 4 ∧ s = .int .i64 (k : Int) ∧ wr.ownsRow base 3 1 v (things (l.take k) to).length (IS (things (l.take k) to)) ∧ Below w.heap.size w wr

set_option maxHeartbeats 1000000 in
set_option maxRecDepth 100000 in
theorem things_any (l : List Int) (to : Int) (w : World) (B : Nat) (A : Option Addr) (n c : Nat) (hr : RI w B A n c l) (hfit : FitL l) (hB : B ≤ w.heap.size) (ht : to ≤ 1000) (ht' : -1000 ≤ to) :
    Calls Try.prog 21 #[.slice A n c, .int .i64 to] w fun e w' =>
      ∃ v, e = .returned v ∧ w'.ownsRow w.heap.size 3 1 v (things l to).length (IS (things l to)) ∧ Below w.heap.size w w' := by
  obtain ⟨i0, hi0, hz0, hz1, hz2⟩ := info_parts info_int
  obtain ⟨rfl, hnc, hrd⟩ := hr
  have HR := Lib.hid hrd
  have HF := Lib.hid hfit
  clear hrd hfit
  go_enter Try.func21, Try.ntmps21
  go_wp2_with fail
  go_loopw [5, 6] (fun v s wr => ThRel w.heap.size l to w v s wr) (fun _ s _ => l.length - (intOf s).toNat)
  case atStart => exact ⟨0, by omega, by omega, rfl, by simpa [things, IS] using World.ownsRow_nil w w.heap.size 3 1, Below.refl _ _⟩
  case round =>
    obtain ⟨k, hk, hk4, rfl, hown, hbel⟩ := hrel
    have hl4 := things_len (l.take k) to
    by_cases hc : k < l.length ∧ k < 4 ∧ 0 ≤ to
    · obtain ⟨hlt, h4, h0⟩ := hc
      obtain ⟨ad, z, rfl, hab, hz, hcell⟩ := RI.at_ ⟨rfl, hnc, HR.out⟩ hlt
      have hzf := HF.out z (List.mem_of_getElem? hz)
      have hcell' : wr.cell? (ad.add k) = some (.int .i64 z) := (hbel.cell (p := ad.add k) (by rw [block_of_add]; omega)).trans hcell
      have hsn := Lib.hid (things_snoc l to k z hz h4 h0)
      have hsz := hbel.size
      clear hz hcell
      have HO := Lib.hid hown
      have HB := Lib.hid hbel
      clear hown hbel
      go_wp2_with fail
      refine (around_any _ _ _ hzf.1 hzf.2 (by omega) (by omega)).mono ?_
      rintro e w1 ⟨rfl, rfl⟩
      go_wp2_with (at_builtin; go_must (refine wpList_append_any _ rfl (.tmp 21) (.tmp 29) _ rfl w.heap.size 3 i0 _ 1 8 Try.underlying23 hi0 hz0 hz1 hz2 rfl (by decide) u5 _ _ rfl (HO.out.alloc _) (wr.heap.size + 1) (some ⟨wr.heap.size, 0, none⟩) 1 1 [.int .i64 (around z (to + 1))] rfl ?c0 ?c3 ?c1 ?c2 (by simp; omega) ?k))
      case c0 => exact ⟨rfl, fun _ => ⟨_, rfl, by simp, fun j u hj => by
        match j, hj with
        | 0, hj => simp at hj; subst hj; simp [Addr.add]⟩⟩
      case c3 => intro u hu; simp at hu; subst hu; rfl
      case c1 => unfold maxLen; omega
      case c2 => omega
      case k =>
      intro v' w2 hown2 hg2 hat2
      go_wp2_with fail
      refine ⟨⟨k + 1, by omega, by omega, by go_num, ?_, ?_⟩, by simp [intOf]; omega⟩
      · have hl := congrArg List.length hsn.out
        simp only [List.length_append, List.length_cons, List.length_nil] at hl
        rw [← hl, ← hsn.out, ← IS_append]
        exact hown2
      · exact (HB.out.alloc (by omega) _).grown hg2 (by simp; omega) (fun i hi => (HO.out.lt i hi).1)
    · have ht := things_take l to k (by omega)
      rw [ht] at hown
      have HO := Lib.hid hown
      have HB := Lib.hid hbel
      clear hown hbel ht
      by_cases h1 : k < l.length
      · by_cases h2 : k < 4
        · have h3 : to < 0 := by omega
          clear hc
          go_wp2_with fail
          go_ret
          exact ⟨_, rfl, HO.out, HB.out⟩
        · clear hc
          go_wp2_with fail
          go_ret
          exact ⟨_, rfl, HO.out, HB.out⟩
      · clear hc
        go_wp2_with fail
        go_ret
        exact ⟨_, rfl, HO.out, HB.out⟩

theorem most_le (p : PV) (f : FV) (op : Int) (h : headB p = true) (hl : f.locals ≤ 8) (hc : f.code.length ≤ 64) : most p f op ≤ 1073741825 := by
  simp only [headB, Bool.and_eq_true, decide_eq_true_eq] at h
  unfold most
  repeat' split
  all_goals omega

set_option maxHeartbeats 1000000 in
theorem instrOf_any (h : PH) (p : PV) (f : FV) (i : IV) (kA : Option Addr) (kc : Nat) (w : World) (hh : headB p = true) (hl : 0 ≤ f.locals ∧ f.locals ≤ 8) (hc : f.code.length ≤ 64)
    (ho : -9223372036854775808 ≤ i.op ∧ i.op ≤ 9223372036854775807) (ha : -9223372036854775808 ≤ i.a ∧ i.a ≤ 9223372036854775807) :
    Calls Try.prog 22 #[.agg #[.slice h.fA p.funcs.length h.fc, .int .i64 p.mutexes, .slice h.cA p.conds.length h.cc, .slice h.sA p.semas.length h.sc, .slice h.hA p.chans.length h.hc, .slice h.xA p.choices.length h.xc, .int .i64 p.threads],
        .agg #[.int .i64 f.locals, .slice kA f.code.length kc], .agg #[.int .i64 i.op, .int .i64 i.a]] w
      fun e w' => e = .returned (.agg #[.int .i64 (instrOf p f i).op, .int .i64 (instrOf p f i).a]) ∧ Below w.heap.size w w' := by
  have h27 := around_27 i.op
  have hmu : 0 ≤ p.mutexes := by simp only [headB, Bool.and_eq_true, decide_eq_true_eq] at hh; omega
  have hm0 := most_nonneg p f (around i.op 27) hmu hl.1
  have hm1 := most_le p f (around i.op 27) hh hl.2 hc
  have HM := Lib.hid (mostV_most p f (around i.op 27))
  generalize hop : around i.op 27 = op at *
  have HOP := Lib.hid hop
  clear hop hh
  have hb2 : ∀ W, Below (((((w.alloc (.cells #[.slice h.fA p.funcs.length h.fc, .int .i64 p.mutexes, .slice h.cA p.conds.length h.cc, .slice h.sA p.semas.length h.sc, .slice h.hA p.chans.length h.hc, .slice h.xA p.choices.length h.xc, .int .i64 p.threads] 26)).alloc
     (.cells #[.int .i64 f.locals, .slice kA f.code.length kc] 45)).alloc (.cells #[.int .i64 i.op, .int .i64 i.a] 47)).alloc (.cells #[.int .i64 0, .int .i64 0] 47)).heap.size) 
     ((((w.alloc (.cells #[.slice h.fA p.funcs.length h.fc, .int .i64 p.mutexes, .slice h.cA p.conds.length h.cc, .slice h.sA p.semas.length h.sc, .slice h.hA p.chans.length h.hc, .slice h.xA p.choices.length h.xc, .int .i64 p.threads] 26)).alloc
     (.cells #[.int .i64 f.locals, .slice kA f.code.length kc] 45)).alloc (.cells #[.int .i64 i.op, .int .i64 i.a] 47)).alloc (.cells #[.int .i64 0, .int .i64 0] 47)) W → Below w.heap.size w W := fun W hW =>
    (((((Below.refl _ _).alloc (Nat.le_refl _) _).alloc (by simp) _).alloc (by simp; omega) _).alloc (by simp; omega) _).trans (hW.mono (by simp; omega))
  have HB2 := Lib.hid hb2
  clear hb2
  go_enter Try.func22, Try.ntmps22
  go_wp2_with fail
  refine (around_any _ _ _ ho.1 ho.2 (by omega) (by omega)).mono ?_
  rintro e w1 ⟨rfl, rfl⟩
  rw [HOP.out]
  go_wp2_with fail
  refine (most_any _ _ _ _ _ _ _ _ _ _ _ _ _ _ _ _ _ _ _ _ _ _ _ (by omega)).mono ?_
  rintro e w1 ⟨rfl, hb1⟩
  rw [HM.out]
  have hi1 : Blk w1 (w.heap.size + 1 + 1) 47 #[.int .i64 i.op, .int .i64 i.a] := by
    refine Blk.below (Blk.alloc ?_ _) hb1 (by simp <;> omega)
    simpa using Blk.new ((w.alloc (.cells #[.slice h.fA p.funcs.length h.fc, .int .i64 p.mutexes, .slice h.cA p.conds.length h.cc, .slice h.sA p.semas.length h.sc, .slice h.hA p.chans.length h.hc, .slice h.xA p.choices.length h.xc, .int .i64 p.threads] 26)).alloc
      (.cells #[.int .i64 f.locals, .slice kA f.code.length kc] 45)) 47 #[.int .i64 i.op, .int .i64 i.a]
  have hr1 : Blk w1 (w.heap.size + 1 + 1 + 1) 47 #[.int .i64 0, .int .i64 0] := by
    refine Blk.below ?_ hb1 (by simp <;> omega)
    simpa using Blk.new (((w.alloc (.cells #[.slice h.fA p.funcs.length h.fc, .int .i64 p.mutexes, .slice h.cA p.conds.length h.cc, .slice h.sA p.semas.length h.sc, .slice h.hA p.chans.length h.hc, .slice h.xA p.choices.length h.xc, .int .i64 p.threads] 26)).alloc
      (.cells #[.int .i64 f.locals, .slice kA f.code.length kc] 45)).alloc (.cells #[.int .i64 i.op, .int .i64 i.a] 47)) 47 #[.int .i64 0, .int .i64 0]
  have hbel := HB2.out _ hb1
  clear hb1
  have HBEL := Lib.hid hbel
  have hz1 := hbel.size
  clear hbel
  have ci0 : w1.cell? ⟨w.heap.size + 1 + 1, 0, none⟩ = some (.int .i64 i.op) := by rw [hi1.cell]; rfl
  have ci1 : w1.cell? ⟨w.heap.size + 1 + 1, 1, none⟩ = some (.int .i64 i.a) := by rw [hi1.cell]; rfl
  have cr0 : w1.cell? ⟨w.heap.size + 1 + 1 + 1, 0, none⟩ = some (.int .i64 0) := by rw [hr1.cell]; rfl
  have cr1 : w1.cell? ⟨w.heap.size + 1 + 1 + 1, 1, none⟩ = some (.int .i64 0) := by rw [hr1.cell]; rfl
  have fr0 := hr1.frozen 0
  have fr1 := hr1.frozen 1
  have HR1 := Lib.hid hr1
  clear hi1 hr1
  go_wp2_with fail
  refine (asks_any _ _).mono ?_
  rintro e w2 ⟨rfl, rfl⟩
  have hend : ∀ u v : Value, Below w.heap.size w ((w1.setCell ⟨w.heap.size + 1 + 1 + 1, 0, none⟩ u).setCell ⟨w.heap.size + 1 + 1 + 1, 1, none⟩ v) := fun u v => (HBEL.out.setCell (by simp; omega) _).setCell (by simp; omega) _
  have HE := Lib.hid hend
  clear hend
  by_cases hk : asks op = false
  · have e : instrOf p f i = ⟨op, 0⟩ := by rw [instrOf]; simp only [HOP.out]; rw [if_pos hk]
    have HV := Lib.hid e
    clear e
    go_wp2_with fail
    exact bodyPost_ret (v := .agg #[.int .i64 op, .int .i64 0]) (by simp [results, Try.results22, go_sem, cr0, cr1]) rfl ⟨by rw [HV.out], HE.out _ _⟩
  · have hk' : asks op = true := by simpa using hk
    by_cases h0 : most p f op = 0
    · have e : instrOf p f i = ⟨12, 0⟩ := by rw [instrOf]; simp only [HOP.out]; rw [if_neg hk, if_pos h0]
      have HV := Lib.hid e
      have h0' : (most p f op == 0) = true := by rw [beq_iff_eq]; exact h0
      clear e h0 hk
      go_wp2_with fail
      exact bodyPost_ret (v := .agg #[.int .i64 12, .int .i64 0]) (by simp [results, Try.results22, go_sem, cr0, cr1]) rfl ⟨by rw [HV.out], HE.out _ _⟩
    · have h0' : (most p f op == 0) = false := by rw [beq_eq_false_iff_ne]; exact h0
      by_cases hp : op = 0
      · have e : instrOf p f i = ⟨0, i.a.tmod 1000⟩ := by rw [instrOf]; simp only [HOP.out]; rw [if_neg hk, if_neg h0, if_pos hp]
        have HV := Lib.hid e
        have hp' : (op == 0) = true := by rw [beq_iff_eq]; exact hp
        clear e h0 hk hp
        go_wp2_with fail
        exact bodyPost_ret (v := .agg #[.int .i64 0, .int .i64 (i.a.tmod 1000)]) (by simp [results, Try.results22, go_sem, cr0, cr1]) rfl ⟨by rw [HV.out], HE.out _ _⟩
      · have e : instrOf p f i = ⟨op, around i.a (most p f op)⟩ := by rw [instrOf]; simp only [HOP.out]; rw [if_neg hk, if_neg h0, if_neg hp]
        have HV := Lib.hid e
        have hp' : (op == 0) = false := by rw [beq_eq_false_iff_ne]; exact hp
        clear e hk hp
        go_wp2_with fail
        refine (around_any _ _ _ ha.1 ha.2 (by omega) (by omega)).mono ?_
        rintro e w2 ⟨rfl, rfl⟩
        go_wp2_with fail
        exact bodyPost_ret (v := .agg #[.int .i64 op, .int .i64 (around i.a (most p f op))]) (by simp [results, Try.results22, go_sem, cr0, cr1]) rfl ⟨by rw [HV.out], HE.out _ _⟩
end Go.Proofs.Ytmjbfobjndiecaa
