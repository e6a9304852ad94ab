
/-
  A queue's pull: the first one that is so is taken out.
-/
import Derived.Test.YtipflplilkecjaaDqU
import Derived.Test.YtipflplilkecjaaDqCut
import Derived.Laws.EntriesVeiled
set_option linter.unusedVariables false
set_option linter.unusedSimpArgs false
namespace Go.Proofs.Ytipflplilkecjaa
open Go.RowKit Plain

namespace Plain
/-- Is it x, and the first one? -/
def isFst (x : Int) (pre : List Int) (y : Int) : Bool := decide (y = x) && !decide (x ∈ pre)
theorem fst_stay (x : Int) (l : List Int) : stayZ (isFst x) l = l.erase x := by
  refine rev_ind (P := fun l => stayZ (isFst x) l = l.erase x) rfl (fun l y ih => ?_) l
  rw [stayZ, partZ_snoc, List.erase_append]
  by_cases h1 : x ∈ l
  · rw [if_pos h1]
    simp [isFst, h1, ih]
  · rw [if_neg h1]
    rw [List.erase_of_not_mem h1] at ih
    by_cases h2 : y = x
    · subst h2
      simp [isFst, h1, ih]
    · have h3 : (y == x) = false := by simpa using h2
      simp [isFst, h1, h2, ih, List.erase_cons, h3]
theorem fst_go (x : Int) (l : List Int) : (goZ (isFst x) l).length = if x ∈ l then 1 else 0 := by
  refine rev_ind (P := fun l => (goZ (isFst x) l).length = if x ∈ l then 1 else 0) rfl (fun l y ih => ?_) l
  rw [goZ, partZ_snoc]
  by_cases h1 : x ∈ l
  · simp [isFst, h1, ih]
  · rw [if_neg h1] at ih
    by_cases h2 : y = x
    · subst h2
      simp [isFst, h1]
      exact List.eq_nil_of_length_eq_zero ih
    · have h4 : ¬ x = y := fun e => h2 e.symm
      simp [isFst, h1, h2, h4]
      exact List.eq_nil_of_length_eq_zero ih
end Plain

set_option maxHeartbeats 1000000 in
theorem clo_any (nb fb : Nat) (x y : Int) (f : Bool) (w : World) (h1 : Blk w nb 3 #[.int .i64 x]) (h2 : Blk w fb 4 #[.bool f]) :
    Calls Try.prog 63 #[.int .i64 y, .pointer (some ⟨nb, 0, none⟩), .pointer (some ⟨fb, 0, none⟩)] w fun e w' => e = .returned (.bool (decide (y = x) && !f)) ∧ w' = w.setCell ⟨fb, 0, none⟩ (.bool (f || (decide (y = x) && !f))) := by
  have c1 : w.cell? ⟨nb, 0, none⟩ = some (.int .i64 x) := (h1.cell 0).trans rfl
  have c2 : w.cell? ⟨fb, 0, none⟩ = some (.bool f) := (h2.cell 0).trans rfl
  have z2 : w.frozen? ⟨fb, 0, none⟩ = false := h2.frozen 0
  clear h1 h2
  by_cases hxy : y = x
  · subst hxy
    cases f
    all_goals
      go_enter Try.func63, Try.ntmps63
      go_wp2_with fail
      go_ret
      exact ⟨by simp, by simp⟩
  · cases f
    all_goals
      go_enter Try.func63, Try.ntmps63
      go_wp2_with fail
      go_ret
      exact ⟨by simp [hxy], by simp [hxy]⟩

/-- Where pull stands. -/
structure PullI (w wr : World) (g : Nat) (dv : Value) (D : Nat → Prop) (A : Option Addr) (n c k : Nat) (x : Int) (L : List Int) (rk : List QRec) : Prop where
  q : Qu wr g dv D rk
  box : wr.cell? ⟨g, 0, none⟩ = some (.slice A n c)
  cont : contQ rk = L
  nin : x ∉ contQ (rk.take k)
  b1 : Blk wr w.heap.size 3 #[.int .i64 x]
  b2 : Blk wr (w.heap.size + 1) 4 #[.bool false]
  fr : Fr D w wr

theorem hent_pull : ∀ (args : Array Value) (W : World), (callFunc 63 args).run Try.prog W = .ok (.enter 63 args) W := by
  intro args W
  go_simp
theorem boolT_ne : 4 ≠ 90 ∧ 4 ≠ 3 ∧ 3 ≠ 90 := by decide
/-- Cut of one of the queue's rings, in pull. -/
theorem cut_pull (g : Nat) (dv : Value) (D : Nat → Prop) (rk : List QRec) (w : World) (x : Int) (nb fb k : Nat) (r : QRec) (h : Qu w g dv D rk) (hr : rk[k]? = some r) (h1 : Blk w nb 3 #[.int .i64 x]) (h2 : Blk w fb 4 #[.bool false]) (hn : ¬ D nb) (hf : ¬ D fb) :
    Calls Try.prog 64 #[.pointer (some ⟨r.g, 0, none⟩), .func (.func 63) #[] #[.pointer (some ⟨nb, 0, none⟩), .pointer (some ⟨fb, 0, none⟩)]] w fun e w' => e = .returned (.int .i64 ((if x ∈ r.l then 1 else 0 : Nat) : Int)) ∧
      RgI w' r.g r.s 32 0 (r.l.erase x) ∧ Blk w' nb 3 #[.int .i64 x] ∧ Blk w' fb 4 #[.bool (decide (x ∈ r.l))] ∧ Fr (fun i => (i = r.g ∨ i = r.s) ∨ i = fb) w w' := by
  obtain ⟨b1, b2, b3⟩ := boolT_ne
  have hq := h.rings r (List.mem_of_getElem? hr)
  obtain ⟨zz, -, ez, -⟩ := hq.1.row
  have nbs : nb ≠ r.s := fun e => hn (e ▸ hq.2.2)
  have nbg : nb ≠ r.g := Blk.ne_ h1 hq.1.box b3
  have nf : nb ≠ fb := Blk.ne_ h1 h2 (Ne.symm b2)
  have fbs : fb ≠ r.s := Blk.ne_ h2 ez b2
  have fbg : fb ≠ r.g := Blk.ne_ h2 hq.1.box b1
  refine (cut_any_q r.g r.s 32 r.f r.l w hq.1 (isFst x) 63 #[.pointer (some ⟨nb, 0, none⟩), .pointer (some ⟨fb, 0, none⟩)] (fun i => i = fb) (fun i => i = nb ∨ i = fb) (fun pre W => Blk W nb 3 #[.int .i64 x] ∧ Blk W fb 4 #[.bool (decide (x ∈ pre))])
    hent_pull (fun pre W W' hj hk => ⟨(hk nb (.inl rfl)).trans hj.1, (hk fb (.inr rfl)).trans hj.2⟩) (fun i hi => by subst hi; exact ⟨h2.lt, fbg, fbs⟩) (fun i hi => by rcases hi with rfl | rfl; exact ⟨h1.lt, nbg, nbs⟩; exact ⟨h2.lt, fbg, fbs⟩) (fun pre y W hj hl hz => ?_) ⟨h1, by simpa using h2⟩).mono ?_
  · refine (clo_any nb fb x y (decide (x ∈ pre)) W hj.1 hj.2).mono ?_
    rintro e W' ⟨rfl, rfl⟩
    refine ⟨rfl, ⟨hj.1.far (p := ⟨fb, 0, none⟩) nf _, ?_⟩, (Fr.refl (fun i => i = fb) W).setCell (p := ⟨fb, 0, none⟩) (.inl rfl) _⟩
    have := hj.2.set_ 0 (.bool (decide (x ∈ pre) || (decide (y = x) && !decide (x ∈ pre))))
    have e1 : (decide (x ∈ pre) || (decide (y = x) && !decide (x ∈ pre))) = decide (x ∈ pre ++ [y]) := by
      by_cases q1 : x ∈ pre
      · simp [q1]
      · by_cases q2 : y = x
        · subst q2; simp [q1]
        · have q3 : ¬ x = y := fun e => q2 e.symm
          simp [q1, q2, q3]
    rw [e1] at this
    rw [e1]
    simpa using this
  · rintro e w' ⟨rfl, q1, q2, q3⟩
    rw [fst_stay] at q1
    rw [fst_go]
    exact ⟨rfl, q1, q2.1, q2.2, q3⟩

set_option maxRecDepth 100000 in
set_option maxHeartbeats 4000000 in
theorem pull_q (g : Nat) (dv : Value) (D : Nat → Prop) (rs : List QRec) (w : World) (x : Int) (h : Qu w g dv D rs) (hD : ∀ i, D i → i < w.heap.size) (hN : (contQ rs).length ≤ 1000000) :
    Calls Try.prog 53 #[.pointer (some ⟨g, 0, none⟩), .int .i64 x] w fun e w' => e = .returned (.bool (decide (x ∈ contQ rs))) ∧ ∃ rs', Qu w' g dv D rs' ∧ contQ rs' = (contQ rs).erase x ∧ Fr D w w' := by
  have hcnt := h.cnt hN
  obtain ⟨A, c, hb, hrow⟩ := h.box
  obtain ⟨n, hn⟩ : ∃ n, n = rs.length := ⟨_, rfl⟩
  have c0 : w.cell? ⟨g, 0, none⟩ = some (.slice A n c) := by rw [hb.cell, hn]; rfl
  have hgl := hb.lt
  rw [← hn] at hcnt
  have hfr0 : Fr D w ((w.alloc (.cells #[.int .i64 x] 3)).alloc (.cells #[.bool false] 4)) := ((Fr.refl D w).alloc _).alloc _
  have hq0 : Qu ((w.alloc (.cells #[.int .i64 x] 3)).alloc (.cells #[.bool false] 4)) g dv D rs := h.fr (S := fun _ => False) (((Fr.refl _ w).alloc _).alloc _) (fun _ h => h.elim)
  have hst : PullI w ((w.alloc (.cells #[.int .i64 x] 3)).alloc (.cells #[.bool false] 4)) g dv D A n c 0 x (contQ rs) rs := by
    refine ⟨hq0, ?_, rfl, by simp [contQ], (Blk.new w _ _).alloc _, by simpa using Blk.new (w.alloc (.cells #[.int .i64 x] 3)) 4 #[.bool false], hfr0⟩
    rw [World.cell?_alloc_lt _ _ _ (by simp; omega), World.cell?_alloc_lt _ _ _ hgl]
    exact c0
  have HST := Lib.hid hst; have HD := Lib.hid hD; have HLEN := Lib.hid hn
  obtain ⟨L, hL⟩ : ∃ L, L = contQ rs := ⟨_, rfl⟩
  have hNL : L.length ≤ 1000000 := by rw [hL]; exact hN
  rw [← hL] at HST
  rw [← hL]
  have HNL := Lib.hid hNL
  clear h hb hrow hn hfr0 hq0 hst hN hL hNL hD
  go_enter Try.func53, Try.ntmps53
  go_wp2_with fail
  clear c0
  go_loopw [15] (fun s15 wr => ∃ (k : Nat) (rk : List QRec), k ≤ n ∧ s15 = .int .i64 (k : Int) ∧ Hid (PullI w wr g dv D A n c k x L rk)) (fun s15 _ => n - (intOf s15).toNat)
  case atStart => exact ⟨0, rs, by omega, rfl, HST⟩
  case round =>
    clear HST
    obtain ⟨k, rk, hk, rfl, HK⟩ := hrel
    obtain ⟨hlen, hrow, hbx⟩ := HK.out.q.wide.row HK.out.box
    by_cases hlt : k < n
    · have ha : rk[k]? = some rk[k] := List.getElem?_eq_getElem (by omega)
      generalize rk[k] = r at *
      obtain ⟨ad, rfl, hcx, _⟩ := hrow.cell ha
      have nD : ∀ i, w.heap.size ≤ i → ¬ D i := fun i hi hd => by have := HD.out i hd; omega
      have hcut := cut_pull g dv D rk wr x w.heap.size (w.heap.size + 1) k r HK.out.q ha HK.out.b1 HK.out.b2 (nD _ (Nat.le_refl _)) (nD _ (by omega))
      have hrr := HK.out.q.rings r (List.mem_of_getElem? ha)
      have hsp := contQ_split ha
      by_cases hx : x ∈ r.l
      · rw [if_pos hx] at hcut
        have hfill : ∀ w1, RgI w1 r.g r.s 32 0 (r.l.erase x) → Fr (fun i => (i = r.g ∨ i = r.s) ∨ i = w.heap.size + 1) wr w1 → Calls Try.prog 65 #[.pointer (some ⟨g, 0, none⟩), .int .i64 (k : Int)] w1 fun e w' => e = .returned (.tuple #[]) ∧ ∃ rs', Qu w' g dv D rs' ∧ contQ rs' = L.erase x ∧ Fr D w w' := fun w1 hr1 hf1 => by
          have hqw := QuW.turn HK.out.q.wide hf1 ha (fun i hi hd => by rcases hi with hi | hi; exact hi; exact absurd hd (nD _ (by omega))) hr1
          refine (fill_q g dv D _ k w1 hqw (by rw [List.length_set]; omega) (fun j r' hj hjk => ?_) (by rw [List.length_set]; omega)).mono ?_
          · rw [List.getElem?_set_ne (Ne.symm hjk)] at hj
            rcases HK.out.q.ne with h1 | h1
            · have h2 := (List.getElem?_eq_some_iff.1 hj).1
              have h3 := (List.getElem?_eq_some_iff.1 ha).1
              omega
            · exact h1 r' (List.mem_of_getElem? hj)
          · rintro e w' ⟨rfl, rs', q1, q2, q3⟩
            refine ⟨rfl, rs', q1, ?_, (HK.out.fr.trans (hf1.mono (S := fun i => D i ∨ i = w.heap.size + 1) (fun i _ e => by rcases e with (rfl | rfl) | e; exact .inl hrr.2.1; exact .inl hrr.2.2; exact .inr e)) (fun i hi e => by rcases e with e | e; exact e; omega)).trans q3 (fun _ _ e => e)⟩
            rw [q2, contQ_set ha, ← HK.out.cont, hsp]
            have hn1 := HK.out.nin
            rw [List.append_assoc, List.append_assoc, List.erase_append, if_neg hn1, List.erase_append, if_pos hx]
        have hmem : x ∈ L := by rw [← HK.out.cont, hsp]; simp [hx]
        have HC := Lib.hid hcut; have HF := Lib.hid hfill; have HM := Lib.hid hmem
        clear hcut hfill hmem hsp hrr ha hrow hbx hlen nD hx
        go_wp2_with fail
        refine HC.out.mono ?_
        rintro e w1 ⟨rfl, q1, q2, q3, q4⟩
        have HF1 := Lib.hid (HF.out w1 q1 q4)
        clear q1 q2 q3 q4 HF HC hcx
        go_wp2_with fail
        refine HF1.out.mono ?_
        rintro e w' ⟨rfl, rs', q1, q2, q3⟩
        go_wp2_with fail
        go_ret
        exact ⟨by rw [decide_eq_true HM.out]; rfl, rs', q1, q2, q3⟩
      · rw [if_neg hx, List.erase_of_not_mem hx, decide_eq_false hx] at hcut
        have hne : rk.length ≤ 1 ∨ r.l ≠ [] := by
          rcases HK.out.q.ne with h1 | h1
          · exact .inl h1
          · exact .inr (h1 r (List.mem_of_getElem? ha))
        have hnext : ∀ w1, RgI w1 r.g r.s 32 0 r.l → Blk w1 w.heap.size 3 #[.int .i64 x] → Blk w1 (w.heap.size + 1) 4 #[.bool false] → Fr (fun i => (i = r.g ∨ i = r.s) ∨ i = w.heap.size + 1) wr w1 → ∃ rk', PullI w w1 g dv D (some ad) n c (k + 1) x L rk' := fun w1 hr1 e1 e2 hf1 => by
          have hqw := HK.out.q.turn hf1 ha (fun i hi hd => by rcases hi with hi | hi; exact hi; exact absurd hd (nD _ (by omega))) hr1 hne
          refine ⟨_, hqw, ?_, ?_, ?_, e1, e2, HK.out.fr.trans (hf1.mono (S := fun i => D i ∨ i = w.heap.size + 1) (fun i _ e => by rcases e with (rfl | rfl) | e; exact .inl hrr.2.1; exact .inl hrr.2.2; exact .inr e)) (fun i hi e => by rcases e with e | e; exact e; omega)⟩
          · obtain ⟨t1, t2, t3, t4, t5, t6⟩ := ringT_ne
            obtain ⟨zz, -, ez, -⟩ := hrr.1.row
            rw [← HK.out.box]
            refine World.cell?_of_block (a := ⟨g, 0, none⟩) (hf1.block g hbx.lt ?_)
            rintro ((e | e) | e)
            · exact Blk.ne_ hbx hrr.1.box (Ne.symm t1) e
            · exact Blk.ne_ hbx ez (Ne.symm t2) e
            · omega
          · rw [contQ_set ha, ← HK.out.cont, hsp]
          · have hlk := (List.getElem?_eq_some_iff.1 ha).1
            rw [contQ_succ (List.getElem?_set_self hlk), List.take_set_of_le (Nat.le_refl _), List.mem_append]
            rintro (e | e)
            · exact HK.out.nin e
            · exact hx e
        have HC := Lib.hid hcut; have HNX := Lib.hid hnext
        clear hcut hnext hsp hrr ha hrow hbx hlen nD hx hne
        go_wp2_with fail
        refine HC.out.mono ?_
        rintro e w1 ⟨rfl, q1, q2, q3, q4⟩
        obtain ⟨rk', hk'⟩ := HNX.out w1 q1 q2 q3 q4
        have HK' := Lib.hid hk'
        clear q1 q2 q3 q4 HNX HC hcx hk'
        go_wp2_with fail
        exact ⟨⟨k + 1, rk', by omega, by go_num, HK'⟩, by simp [intOf]; omega⟩
    · have hkn : k = n := by omega
      have hnm : x ∉ L := by
        have := HK.out.nin
        rw [hkn, ← hlen, List.take_length, HK.out.cont] at this
        exact this
      have HNM := Lib.hid hnm
      clear hnm hkn hrow hbx hlen
      go_wp2_with fail
      go_ret
      exact ⟨by rw [decide_eq_false HNM.out]; rfl, rk, HK.out.q, by rw [HK.out.cont, List.erase_of_not_mem HNM.out], HK.out.fr⟩
end Go.Proofs.Ytipflplilkecjaa
