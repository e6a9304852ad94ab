
/-
  The document's Broadcast.
-/
import Derived.Test.YtikelkfinjcgaaaLkX
import Derived.Test.YtikelkfinjcgaaaLkBr
set_option linter.unusedVariables false
set_option linter.unusedSimpArgs false
namespace Go.Proofs.Ytikelkfinjcgaaa
open Go.RowKit Plain

/-- Where the document's Broadcast stands. -/
structure BD (E : Nat → Prop) (w wr : World) (p q n K cc m : Nat) (row : List Int) (fin : Lk × Int) (z : LkQ) (s : Lk) (got : Int) (v : Value) (acc rest : List Int) : Prop where
  k : Blk wr w.heap.size 27 (mkC z p q n)
  r : Blk wr (w.heap.size + 1) 27 zeroC
  d : DocC wr (fun k => (k < w.heap.size → E k) ∧ k ≠ w.heap.size ∧ k ≠ w.heap.size + 1 ∧ ¬ v.ownBlock = some k) z p q n s
  b : Below w.heap.size w wr
  o : OwnI wr (w.heap.size + 2) v acc
  ok : LkOk K s
  g : gl s.wq cc = rest
  e : acc ++ rest = row
  fin : broadV cc m rest s got = fin
theorem doc_fin9 {E : Nat → Prop} {w W : World} {p q n K cc m : Nat} {row acc : List Int} {fin : Lk × Int} {z : LkQ} {s : Lk} {got : Int} {v : Value} {rest : List Int} (h : BD E w W p q n K cc m row fin z s got v acc rest) :
    Blk ((((((((((W.setCell ⟨w.heap.size + 1, 0, none⟩ (.int .i64 0)).setCell ⟨w.heap.size + 1, 1, none⟩ (.slice none 0 0)).setCell ⟨w.heap.size + 1, 2, none⟩ (.slice z.A0 p z.d0)).setCell ⟨w.heap.size + 1, 3, none⟩ (.slice z.A1 n z.d1)).setCell ⟨w.heap.size + 1, 4, none⟩ (.slice none 0 0)).setCell ⟨w.heap.size + 1, 5, none⟩ (.slice z.A2 p z.d2)).setCell ⟨w.heap.size + 1, 6, none⟩ (.slice z.A3 q z.d3)).setCell ⟨w.heap.size + 1, 7, none⟩ (.slice z.A4 n z.d4)).setCell ⟨w.heap.size + 1, 8, none⟩ (.slice none 0 0)).setCell ⟨w.heap.size + 1, 9, none⟩ (.slice none 0 0)) (w.heap.size + 1) 27 #[.int .i64 0, .slice none 0 0, .slice z.A0 p z.d0, .slice z.A1 n z.d1, .slice none 0 0, .slice z.A2 p z.d2, .slice z.A3 q z.d3, .slice z.A4 n z.d4, .slice none 0 0, .slice none 0 0] ∧ DocC ((((((((((W.setCell ⟨w.heap.size + 1, 0, none⟩ (.int .i64 0)).setCell ⟨w.heap.size + 1, 1, none⟩ (.slice none 0 0)).setCell ⟨w.heap.size + 1, 2, none⟩ (.slice z.A0 p z.d0)).setCell ⟨w.heap.size + 1, 3, none⟩ (.slice z.A1 n z.d1)).setCell ⟨w.heap.size + 1, 4, none⟩ (.slice none 0 0)).setCell ⟨w.heap.size + 1, 5, none⟩ (.slice z.A2 p z.d2)).setCell ⟨w.heap.size + 1, 6, none⟩ (.slice z.A3 q z.d3)).setCell ⟨w.heap.size + 1, 7, none⟩ (.slice z.A4 n z.d4)).setCell ⟨w.heap.size + 1, 8, none⟩ (.slice none 0 0)).setCell ⟨w.heap.size + 1, 9, none⟩ (.slice none 0 0)) (fun k => (E k ∧ k < w.heap.size) ∨ w.heap.size + 2 ≤ k) z p q n s ∧ OwnI ((((((((((W.setCell ⟨w.heap.size + 1, 0, none⟩ (.int .i64 0)).setCell ⟨w.heap.size + 1, 1, none⟩ (.slice none 0 0)).setCell ⟨w.heap.size + 1, 2, none⟩ (.slice z.A0 p z.d0)).setCell ⟨w.heap.size + 1, 3, none⟩ (.slice z.A1 n z.d1)).setCell ⟨w.heap.size + 1, 4, none⟩ (.slice none 0 0)).setCell ⟨w.heap.size + 1, 5, none⟩ (.slice z.A2 p z.d2)).setCell ⟨w.heap.size + 1, 6, none⟩ (.slice z.A3 q z.d3)).setCell ⟨w.heap.size + 1, 7, none⟩ (.slice z.A4 n z.d4)).setCell ⟨w.heap.size + 1, 8, none⟩ (.slice none 0 0)).setCell ⟨w.heap.size + 1, 9, none⟩ (.slice none 0 0)) (w.heap.size + 2) v acc ∧ Below w.heap.size w ((((((((((W.setCell ⟨w.heap.size + 1, 0, none⟩ (.int .i64 0)).setCell ⟨w.heap.size + 1, 1, none⟩ (.slice none 0 0)).setCell ⟨w.heap.size + 1, 2, none⟩ (.slice z.A0 p z.d0)).setCell ⟨w.heap.size + 1, 3, none⟩ (.slice z.A1 n z.d1)).setCell ⟨w.heap.size + 1, 4, none⟩ (.slice none 0 0)).setCell ⟨w.heap.size + 1, 5, none⟩ (.slice z.A2 p z.d2)).setCell ⟨w.heap.size + 1, 6, none⟩ (.slice z.A3 q z.d3)).setCell ⟨w.heap.size + 1, 7, none⟩ (.slice z.A4 n z.d4)).setCell ⟨w.heap.size + 1, 8, none⟩ (.slice none 0 0)).setCell ⟨w.heap.size + 1, 9, none⟩ (.slice none 0 0)) := by
  have hF := fr_set10 W (w.heap.size + 1) (.int .i64 0) (.slice none 0 0) (.slice z.A0 p z.d0) (.slice z.A1 n z.d1) (.slice none 0 0) (.slice z.A2 p z.d2) (.slice z.A3 q z.d3) (.slice z.A4 n z.d4) (.slice none 0 0) (.slice none 0 0)
  exact ⟨h.r.set10 _ _ _ _ _ _ _ _ _ _, (h.d.fr hF (fun i hi _ e => hi.2.2.1 e)).mono (fun k hk _ => by rcases Nat.lt_or_ge k w.heap.size with h9 | h9; exact .inl ⟨hk.1 h9, h9⟩; exact .inr (by have := hk.2.1; have := hk.2.2.1; omega)), hF.own h.o (fun i hi e => by have := (own_blk h.o hi).1; omega), h.b.trans (hF.below h.b.size (fun i hi => by omega))⟩
theorem bd_next {E : Nat → Prop} {w wr w2 W3 W4 : World} {p q n K cc m : Nat} {row acc : List Int} {fin : Lk × Int} {z z2 : LkQ} {s s2 : Lk} {got : Int} {v : Value} {rest : List Int} (h : BD E w wr p q n K cc m row fin z s got v acc rest) (hb : Below wr.heap.size wr w2) (hd : DocC w2 (fun k => wr.heap.size ≤ k) z2 p q n s2) (hW3 : W3 = w2.alloc (.cells (mkC z2 p q n) 27)) (hW4 : W4 = ((((((((((W3.setCell ⟨w.heap.size, 0, none⟩ (.int .i64 0)).setCell ⟨w.heap.size, 1, none⟩ (.slice none 0 0)).setCell ⟨w.heap.size, 2, none⟩ (.slice z2.A0 p z2.d0)).setCell ⟨w.heap.size, 3, none⟩ (.slice z2.A1 n z2.d1)).setCell ⟨w.heap.size, 4, none⟩ (.slice none 0 0)).setCell ⟨w.heap.size, 5, none⟩ (.slice z2.A2 p z2.d2)).setCell ⟨w.heap.size, 6, none⟩ (.slice z2.A3 q z2.d3)).setCell ⟨w.heap.size, 7, none⟩ (.slice z2.A4 n z2.d4)).setCell ⟨w.heap.size, 8, none⟩ (.slice none 0 0)).setCell ⟨w.heap.size, 9, none⟩ (.slice none 0 0))) :
    Blk W3 w.heap.size 27 (mkC z p q n) ∧ True ∧ Blk W4 w.heap.size 27 (mkC z2 p q n) ∧ Blk W4 (w.heap.size + 1) 27 zeroC ∧ DocC W4 (fun k => wr.heap.size ≤ k) z2 p q n s2 ∧ OwnI W4 (w.heap.size + 2) v acc ∧ Below w.heap.size w W4 ∧ wr.heap.size ≤ W4.heap.size ∧ w.heap.size + 2 ≤ W4.heap.size ∧ ∀ k, v.ownBlock = some k → k < wr.heap.size := by
  have hF := fr_set10 W3 w.heap.size (.int .i64 0) (.slice none 0 0) (.slice z2.A0 p z2.d0) (.slice z2.A1 n z2.d1) (.slice none 0 0) (.slice z2.A2 p z2.d2) (.slice z2.A3 q z2.d3) (.slice z2.A4 n z2.d4) (.slice none 0 0) (.slice none 0 0)
  rw [← hW4] at hF
  have hb3 : Below wr.heap.size wr W3 := by rw [hW3]; exact hb.alloc hb.size _
  have hb23 : Below w2.heap.size w2 W3 := by rw [hW3]; exact (Below.refl _ _).alloc (Nat.le_refl _) _
  have hk := h.k.below hb3 h.k.lt
  have hr := h.r.below hb3 h.r.lt
  have hl := h.b.trans (hb3.mono h.b.size)
  have ho : OwnI W3 (w.heap.size + 2) v acc := (Fr.of_below hb3).own h.o (fun i hi e => by have := (own_blk h.o hi).2.1; omega)
  have hB := hk.set10 (.int .i64 0) (.slice none 0 0) (.slice z2.A0 p z2.d0) (.slice z2.A1 n z2.d1) (.slice none 0 0) (.slice z2.A2 p z2.d2) (.slice z2.A3 q z2.d3) (.slice z2.A4 n z2.d4) (.slice none 0 0) (.slice none 0 0)
  rw [← hW4] at hB
  have h1 := h.k.lt
  have h2 := h.r.lt
  have h3 := hb3.size
  have h4 := hF.size
  exact ⟨hk, trivial, hB, hF.blk hr (by omega), (hd.below hb23 (Nat.le_refl _)).fr hF (fun i hi _ e => by omega), hF.own ho (fun i hi e => by have := (own_blk h.o hi).1; omega), hl.trans (hF.below hl.size (fun i hi => by omega)), by omega, by omega, fun k hk => (own_blk h.o hk).2.1⟩
set_option maxRecDepth 100000 in
set_option maxHeartbeats 8000000 in
theorem refBroadcast_any (w : World) (E : Nat → Prop) (z : LkQ) (p q n : Nat) (s : Lk) (h : DocC w E z p q n s) {K : Nat} (O : LkOk K s) (hK : K ≤ 100000) (cc m : Nat) (hc : cc < q) (hm : m < p) :
    Calls Try.prog 47 #[.agg (mkC z p q n), .int .i64 (cc : Int), .int .i64 (m : Int)] w fun e w' => ∃ (z' : LkQ) (v : Value), e = .returned (.tuple #[.agg (mkC z' p q n), v, .int .i64 (broadV cc m (gl s.wq cc) s (-1)).2]) ∧ DocC w' (fun k => (E k ∧ k < w.heap.size) ∨ w.heap.size + 2 ≤ k) z' p q n (broadV cc m (gl s.wq cc) s (-1)).1 ∧ OwnI w' (w.heap.size + 2) v (gl s.wq cc) ∧ Below w.heap.size w w' := by
  obtain ⟨i0, hi0, hz0, hz1, hz2⟩ := info_parts info_int
  have q1 : (cc : Int) < (q : Int) := by omega
  have q0 : (0 : Int) ≤ (cc : Int) := by omega
  have hrl := gl_le s.wq cc
  have hrt := O.tt
  obtain ⟨row, hrow⟩ : ∃ row, row = gl s.wq cc := ⟨_, rfl⟩
  obtain ⟨fin, hfin⟩ : ∃ fin, fin = broadV cc m row s (-1) := ⟨_, rfl⟩
  rw [← hrow, ← hfin]
  have hr6 : row.length ≤ 100000 := by rw [hrow]; omega
  obtain ⟨W0, hW0⟩ : ∃ W, W = (w.alloc (.cells (mkC z p q n) 27)).alloc (.cells zeroC 27) := ⟨_, rfl⟩
  have k0 : Blk W0 w.heap.size 27 (mkC z p q n) := by rw [hW0]; exact (Blk.new w _ _).alloc _
  have r0 : Blk W0 (w.heap.size + 1) 27 zeroC := by rw [hW0]; simpa using Blk.new (w.alloc (.cells (mkC z p q n) 27)) 27 zeroC
  have l0 : Below w.heap.size w W0 := by rw [hW0]; exact ((Below.refl _ w).alloc (Nat.le_refl _) _).alloc (by simp) _
  have hi : BD E w W0 p q n K cc m row fin z s (-1) (.slice none 0 0) [] row := ⟨k0, r0, (h.mono (fun k hE hk => ⟨fun _ => hE, by omega, by omega, by simp [Value.ownBlock]⟩)).below l0 (Nat.le_refl _), l0, OwnI.nil _ _ , O, hrow.symm, rfl, hfin.symm⟩
  have HI := Lib.hid hi; have HW0 := Lib.hid hW0; have HOK := Lib.hid hK
  clear hi h O hrl hrt hrow hfin hW0 k0 r0 l0
  go_enter Try.func47, Try.ntmps47
  go_upto_region 3 with fail
  rw [← HW0.out]
  clear HW0
  go_loopw [9, 10] (fun s9 s10 wr => ∃ (z : LkQ) (s : Lk) (got : Int) (A : Option Addr) (cap : Nat) (acc rest : List Int) (nn : Nat), s9 = .slice A nn cap ∧ s10 = .int .i64 got ∧ nn ≤ row.length ∧ Hid (acc.length = nn) ∧ Hid (BD E w wr p q n K cc m row fin z s got (.slice A nn cap) acc rest)) (fun s9 _ _ => row.length - lenV s9)
  case atStart => exact ⟨z, s, -1, none, 0, [], row, 0, rfl, rfl, by omega, Lib.hid rfl, HI⟩
  case round =>
    clear HI
    obtain ⟨z, s, got, A, cap, acc, rest, nn, rfl, rfl, hn, HN, HI⟩ := hrel
    have hmw : cc < s.wq.length := by rw [HI.out.d.lw]; exact hc
    have hmo : m < s.own.length := by rw [HI.out.d.lo]; exact hm
    obtain ⟨ad, A1, c1, e1, e2, e3, e4, e6⟩ := HI.out.d.wq.at_ hmw
    obtain ⟨x0, x1, x2, x3, x4, x5, x6, x7, x8, x9⟩ := blk10 HI.out.k
    rw [HI.out.g] at e4
    have E1 := Lib.hid e1
    rw [e1] at x6
    have HMW := Lib.hid hmw; have HMO := Lib.hid hmo
    clear e1 e2 e6 hmw hmo
    cases rest with
    | nil =>
      rw [List.length_nil] at e4
      obtain ⟨s0, s1, s2, s3, s4, s5, s6, s7, s8, s9⟩ := blk10 HI.out.r
      have t0 := (HI.out.r).frozen 0
      have t1 := (HI.out.r).frozen 1
      have t2 := (HI.out.r).frozen 2
      have t3 := (HI.out.r).frozen 3
      have t4 := (HI.out.r).frozen 4
      have t5 := (HI.out.r).frozen 5
      have t6 := (HI.out.r).frozen 6
      have t7 := (HI.out.r).frozen 7
      have t8 := (HI.out.r).frozen 8
      have t9 := (HI.out.r).frozen 9
      have hE := doc_fin9 HI.out
      rw [E1.out] at hE
      have HE := Lib.hid hE
      clear hE
      go_wp2_with fail
      refine bodyPost_ret (v := .tuple #[.agg #[.int .i64 0, .slice none 0 0, .slice z.A0 p z.d0, .slice z.A1 n z.d1, .slice none 0 0, .slice z.A2 p z.d2, .slice (some ad) q z.d3, .slice z.A4 n z.d4, .slice none 0 0, .slice none 0 0], .slice A nn cap, .int .i64 got]) (res9_2 rfl _ _ (w.heap.size + 1) 27 _ (0, 0) _ _ _ rfl rfl rfl HE.out.1 Try.underlying27 rfl (by kernel_rfl)) rfl ?_
      have he := HI.out.e
      rw [List.append_nil] at he
      have hfin := HI.out.fin
      simp only [broadV] at hfin
      subst he
      rw [← hfin]
      exact ⟨z, _, by rw [show mkC z p q n = #[.int .i64 0, .slice none 0 0, .slice z.A0 p z.d0, .slice z.A1 n z.d1, .slice none 0 0, .slice z.A2 p z.d2, .slice (some ad) q z.d3, .slice z.A4 n z.d4, .slice none 0 0, .slice none 0 0] by simp only [mkC, E1.out]], HE.out.2.1, HE.out.2.2.1, HE.out.2.2.2⟩
    | cons x r =>
      rw [show (x :: r).length = r.length + 1 from rfl] at e4
      have hne : (0 : Int) < (r.length : Int) + 1 := by omega
      obtain ⟨o1, o2, o3, o4⟩ := HI.out.ok.fewer HMW.out HI.out.g
      have hown : -1 ≤ gn s.own m := (HI.out.ok.own _ (gn_mem HMO.out)).1
      have hsig := refSignal_some wr _ z p q n s HI.out.d (SzL.of HI.out.ok HOK.out) cc m hc hm hown x r HI.out.g
      rw [show mkC z p q n = mkC { z with A3 := some ad } p q n by simp only [mkC, E1.out]] at hsig
      have ho2 := o1.lock (t := x) HMO.out o3 o4 o2
      have hlw := lockV_wq { s with wq := s.wq.set cc r } m x
      have hfin := HI.out.fin
      simp only [broadV] at hfin
      have hgr : gl (lockV { s with wq := s.wq.set cc r } m x).1.wq cc = r := by rw [hlw.1]; exact gl_set HMW.out r
      generalize lockV { s with wq := s.wq.set cc r } m x = sb at *
      obtain ⟨s2, b⟩ := sb
      have hnx : nn + 1 ≤ row.length := by
        have := congrArg List.length HI.out.e
        have := HN.out
        simp at *
        omega
      have HS := Lib.hid hsig; have HO2 := Lib.hid ho2; have HF := Lib.hid hfin; have HGR := Lib.hid hgr
      clear hsig ho2 hlw hfin hgr o1 o2 o3 o4 hown
      go_wp2_with fail
      refine HS.out.mono ?_
      rintro e w2 ⟨z2, rfl, hD2, hb2⟩
      obtain ⟨W3, hW3⟩ : ∃ W, W = w2.alloc (.cells (mkC z2 p q n) 27) := ⟨_, rfl⟩
      obtain ⟨tb, htb⟩ : ∃ b, b = w2.heap.size := ⟨_, rfl⟩
      obtain ⟨W4, hW4⟩ : ∃ W, W = ((((((((((W3.setCell ⟨w.heap.size, 0, none⟩ (.int .i64 0)).setCell ⟨w.heap.size, 1, none⟩ (.slice none 0 0)).setCell ⟨w.heap.size, 2, none⟩ (.slice z2.A0 p z2.d0)).setCell ⟨w.heap.size, 3, none⟩ (.slice z2.A1 n z2.d1)).setCell ⟨w.heap.size, 4, none⟩ (.slice none 0 0)).setCell ⟨w.heap.size, 5, none⟩ (.slice z2.A2 p z2.d2)).setCell ⟨w.heap.size, 6, none⟩ (.slice z2.A3 q z2.d3)).setCell ⟨w.heap.size, 7, none⟩ (.slice z2.A4 n z2.d4)).setCell ⟨w.heap.size, 8, none⟩ (.slice none 0 0)).setCell ⟨w.heap.size, 9, none⟩ (.slice none 0 0)) := ⟨_, rfl⟩
      obtain ⟨a1, a2, a3⟩ := bd_next HI.out hb2 hD2 hW3 hW4
      have k3 : Blk W3 tb 27 (mkC z2 p q n) := by rw [hW3, htb]; exact Blk.new w2 _ _
      have H4 := Lib.hid a3; have HW3 := Lib.hid hW3; have HTB := Lib.hid htb; have HW4 := Lib.hid hW4; have K3 := Lib.hid k3
      clear x0 x1 x2 x3 x4 x5 x6 x7 x8 x9 e3 e4 hne HS hD2 hb2 hW3 htb hW4 k3 a3
      obtain ⟨y0, y1, y2, y3, y4, y5, y6, y7, y8, y9⟩ := blk10 a1
      have g0 := a1.frozen 0
      have g1 := a1.frozen 1
      have g2 := a1.frozen 2
      have g3 := a1.frozen 3
      have g4 := a1.frozen 4
      have g5 := a1.frozen 5
      have g6 := a1.frozen 6
      have g7 := a1.frozen 7
      have g8 := a1.frozen 8
      have g9 := a1.frozen 9
      go_upto_region 5 with fail
      rw [← HW3.out, ← HTB.out]
      obtain ⟨x0, x1, x2, x3, x4, x5, x6, x7, x8, x9⟩ := blk10 K3.out
      go_upto_region 6 with fail
      rw [← HW4.out]
      clear HW4 HW3 HTB K3 x0 x1 x2 x3 x4 x5 x6 x7 x8 x9 y0 y1 y2 y3 y4 y5 y6 y7 y8 y9 g0 g1 g2 g3 g4 g5 g6 g7 g8 g9 a1 a2
      have hacc : W4.ownsRow (w.heap.size + 2) 3 1 (.slice A nn cap) nn (acc.map EnI) := by
        have := H4.out.2.2.2.1
        unfold OwnI at this
        rwa [HN.out] at this
      have HACC := Lib.hid hacc
      clear hacc
      go_wp2_with (at_builtin; go_must (refine wpList_append_any _ rfl (.tmp 30) (.tmp 32) _ rfl (w.heap.size + 2) 3 i0 _ 1 8 Try.underlying22 hi0 hz0 hz1 hz2 rfl (by decide) (.slice A nn cap) nn (acc.map EnI) rfl (own_later HACC.out ((Below.refl _ _).alloc (Nat.le_refl _) _)) _ _ 1 1 [.int .i64 x] rfl (reads_one_int _ x _) (by simp [Value.oneCell']) ?f1 ?f2 ?f3 ?f4))
      case f1 => unfold maxLen; omega
      case f2 => omega
      case f3 => have := H4.out.2.2.2.2.2.2.1; simp; omega
      case f4 =>
      intro v3 w3 hown hgr hat
      have hown2 : OwnI w3 (w.heap.size + 2) v3 (acc ++ [x]) := OwnI.snoc (by rw [HN.out]; exact hown)
      obtain ⟨b1, b2, b3, b4, b5, b6, b7, b8⟩ := H4.out
      have hF3 : Fr (fun k => (Value.slice A nn cap).ownBlock = some k) W4 w3 := ((Fr.refl (fun _ => False) W4).alloc _ |>.mono (fun _ _ h => h.elim)).trans (Fr.of_grown hgr) (fun _ _ h => h)
      have hvb : ∀ k, (Value.slice A nn cap).ownBlock = some k → w.heap.size + 2 ≤ k := fun k hk => (own_blk b4 hk).1
      have c1 := hF3.blk b1 (fun e => by have := hvb _ e; omega)
      have c2 := hF3.blk b2 (fun e => by have := hvb _ e; omega)
      have c3 : DocC w3 (fun k => (k < w.heap.size → E k) ∧ k ≠ w.heap.size ∧ k ≠ w.heap.size + 1 ∧ ¬ v3.ownBlock = some k) z2 p q n s2 := by
        have d1 : DocC W4 (fun k => wr.heap.size ≤ k ∧ k < W4.heap.size) z2 p q n s2 := b3.mono (fun k hk hl => ⟨hk, hl⟩)
        refine (d1.fr hF3 (fun i hi _ e => by have := b8 _ e; omega)).mono (fun k hk _ => ?_)
        have hat2 : v3.ownBlock = (Value.slice A nn cap).ownBlock ∨ v3.ownBlock = some (W4.heap.size + 1) := by simpa using hat
        have hr1 := HI.out.r.lt
        refine ⟨fun _ => by omega, by omega, by omega, fun e => ?_⟩
        rcases hat2 with h | h
        · rw [h] at e
          have := b8 _ e
          omega
        · rw [h] at e
          injection e with e
          omega
      have c5 : Below w.heap.size w w3 := b5.trans (hF3.below b5.size (fun i e => by have := hvb _ e; omega))
      obtain ⟨A', cap', rfl, _, _⟩ := hown2.slice
      have hl3 : (acc ++ [x]).length = nn + 1 := by simp [HN.out]
      rw [hl3] at hown2 c3 ⊢
      have HL3 := Lib.hid hl3
      have he3 : (acc ++ [x]) ++ r = row := by rw [← HI.out.e]; simp
      cases b
      · have HI3 := Lib.hid (⟨c1, c2, c3, c5, hown2, HO2.out, HGR.out, he3, HF.out⟩ : BD E w w3 p q n K cc m row fin z2 s2 got (.slice A' (nn + 1) cap') (acc ++ [x]) r)
        clear hown hgr hat hown2 hF3 hvb c1 c2 c3 c5 hl3 he3 HACC HO2 HGR HF HI HN H4 HMW HMO E1 b1 b2 b3 b4 b5 b6 b7 b8
        go_wp2_with fail
        exact ⟨⟨z2, s2, got, A', cap', acc ++ [x], r, nn + 1, rfl, rfl, hnx, HL3, HI3⟩, by simp [lenV]; omega⟩
      · have HI3 := Lib.hid (⟨c1, c2, c3, c5, hown2, HO2.out, HGR.out, he3, HF.out⟩ : BD E w w3 p q n K cc m row fin z2 s2 x (.slice A' (nn + 1) cap') (acc ++ [x]) r)
        clear hown hgr hat hown2 hF3 hvb c1 c2 c3 c5 hl3 he3 HACC HO2 HGR HF HI HN H4 HMW HMO E1 b1 b2 b3 b4 b5 b6 b7 b8
        go_wp2_with fail
        exact ⟨⟨z2, s2, x, A', cap', acc ++ [x], r, nn + 1, rfl, rfl, hnx, HL3, HI3⟩, by simp [lenV]; omega⟩
end Go.Proofs.Ytikelkfinjcgaaa
