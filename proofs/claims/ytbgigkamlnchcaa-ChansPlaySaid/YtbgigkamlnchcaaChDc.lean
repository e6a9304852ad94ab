
/-
  The document's Cancel.
-/
import Derived.Test.YtbgigkamlnchcaaChDb
set_option linter.unusedVariables false
set_option linter.unusedSimpArgs false
namespace Go.Proofs.Ytbgigkamlnchcaa
open Go.RowKit Plain

theorem wpList_append_sl {ops : Array Oper} {rest : List Oper} {o : Oper} {a : Act} {w : World} {Q : Exit → Act → World → Prop} (hgd : o.guard = none) (s x : Operand)
    (ho : o.op = .call { callee := .builtin .append, args := #[s, x], argTypes := #[25, 25] })
    (B : Nat) (v : Value) (l news : List Int) (hs : a.eval s = v) (h : SlI w B v l) (ad : Addr) (m c : Nat) (hx : a.eval x = .slice (some ad) m c) (hm : news.length = m)
    (hr : ∀ (j : Nat) (u : Value), (news.map EnI)[j]? = some u → w.cell? (ad.add j) = some u) (hK : l.length + m ≤ 1000000) (hB : B ≤ w.heap.size)
    (hk : ∀ A' c' w', SlI w' B (.slice A' (l.length + m) c') (l ++ news) → Fr (fun k => v.ownBlock = some k) w w' → (∀ k, (Value.slice A' (l.length + m) c').ownBlock = some k → v.ownBlock = some k ∨ w.heap.size ≤ k) → wpList Try.prog ops Q rest (a.put o.dst (.slice A' (l.length + m) c')) w') : wpList Try.prog ops Q (o :: rest) a w :=
  wpList_plain hgd fun _ hK2 => wp_append_sl s x ho B v l news hs h ad m c hx hm hr hK hB fun A' c' w' h1 h2 h3 => hK2 _ _ (hk A' c' w' h1 h2 h3)
theorem set_mid {f : List Int → List Int} {L : List (List Int)} {k : Nat} (hk : k < L.length) : ((L.take k).map f ++ L.drop k).set k (f (gl L k)) = (L.take (k + 1)).map f ++ L.drop (k + 1) := by
  apply List.ext_getElem?
  intro i
  have hl : ((L.take k).map f).length = k := by simp; omega
  have hl1 : ((L.take (k + 1)).map f).length = k + 1 := by simp; omega
  by_cases h : k = i
  · subst h
    rw [List.getElem?_set_self (by simp; omega), List.getElem?_append_left (by omega), List.getElem?_map, List.getElem?_take_of_lt (by omega), gl_some hk]
    rfl
  · rw [List.getElem?_set_ne h]
    rcases Nat.lt_or_ge i k with hi | hi
    · rw [List.getElem?_append_left (by omega), List.getElem?_append_left (by omega), List.getElem?_map, List.getElem?_map, List.getElem?_take_of_lt (by omega), List.getElem?_take_of_lt (by omega)]
    · rw [List.getElem?_append_right (by omega), List.getElem?_append_right (by omega), List.getElem?_drop, List.getElem?_drop, hl, hl1]
      congr 1
      omega
theorem take_gn {l : List Int} {i : Nat} (h : i < l.length) : l.take (i + 1) = l.take i ++ [gn l i] := by
  rw [List.take_add_one, gn_some h]
  rfl
theorem wo_snoc_ne {t x : Int} {l : List Int} (h : x ≠ t) : wo t (l ++ [x]) = wo t l ++ [x] := by simp [wo, h]
theorem wo_snoc_eq {t x : Int} {l : List Int} (h : x = t) : wo t (l ++ [x]) = wo t l := by simp [wo, h]
/-- Cancel under way: k of the rows stand without the thread. -/
structure CaI (w W : World) (B nb : Nat) (z z' : ChZ) (n : Nat) (s : Ck) (t : Int) (k : Nat) : Prop where
  bx : Blk W w.heap.size 28 (mkD z n)
  r : Blk W (w.heap.size + 1) 28 zeroC
  g : Blk W nb 28 (mkD z' n)
  d : DO W B z' n { s with rq := (s.rq.take k).map (wo t) ++ s.rq.drop k }
  l : Below w.heap.size w W
  lt : w.heap.size + 1 < B
  le : B ≤ nb
/-- A row under way. -/
structure CaJ (wr wj : World) (A : Option Addr) (j c : Nat) (l : List Int) : Prop where
  s : SlI wj wr.heap.size (.slice A j c) l
  b : Below wr.heap.size wr wj
section
variable {w W W2 wr wj w3 : World} {B nb n k j c : Nat} {z z' : ChZ} {s : Ck} {t : Int} {A A' : Option Addr} {l : List Int}
theorem CaJ.start (wr : World) : CaJ wr wr none 0 0 [] := ⟨⟨none, 0, rfl, Nat.le_refl _, fun _ => rfl, fun ad e => by cases e⟩, Below.refl _ _⟩
theorem CaJ.len (h : CaJ wr wj A j c l) : l.length = j := by
  obtain ⟨A', c', e, _⟩ := h.s
  injection e with _ e _
  exact e.symm
theorem CaJ.next (h : CaJ wr wj A j c l) {x : Int} {o : Obj} {c' : Nat} (hs : SlI w3 wr.heap.size (.slice A' (j + 1) c') (l ++ [x])) (hf : Fr (fun k => (Value.slice A j c).ownBlock = some k) (wj.alloc o) w3) : CaJ wr w3 A' (j + 1) c' (l ++ [x]) := by
  have h1 := h.b.size
  exact ⟨hs, (h.b.alloc h1 o).trans (hf.below (by simp; omega) (fun i hi => (h.s.lt hi).1))⟩
/-- The row is put in its place. -/
theorem CaI.next (h : CaI w W B nb z z' n s t k) (hk : k < n) (hl3 : s.rq.length = n) (hj : CaJ W W2 A j c (wo t (gl s.rq k))) :
    ∃ b u, W2.cell? ⟨nb, 9, none⟩ = some (.slice (some ⟨b, 0, none⟩) n z'.d3) ∧ n ≤ z'.d3 ∧ W2.cell? ⟨b, k, none⟩ = some u ∧ W2.frozen? ⟨b, k, none⟩ = false ∧ Hid (CaI w (W2.setCell ⟨b, k, none⟩ (.slice A j c)) B nb z z' n s t (k + 1)) := by
  have hg := h.g.lt
  have hle := h.le
  have hlt := h.lt
  obtain ⟨b, cap, A1, c1, e1, e2, e3, e4, e5, e6, e7, e8⟩ := h.d.t.at_ (by omega) (q := 2) (i := k) (by omega) (by show k < ((s.rq.take k).map (wo t) ++ s.rq.drop k).length; simp; omega)
  have hlen : ((s.rq.take k).map (wo t) ++ s.rq.drop k).length = n := by simp; omega
  have e1' : Value.slice z'.A3 n z'.d3 = .slice (some ⟨b, 0, none⟩) ((s.rq.take k).map (wo t) ++ s.rq.drop k).length cap := e1
  have e2' : ((s.rq.take k).map (wo t) ++ s.rq.drop k).length ≤ cap := e2
  injection e1' with f1 f2 f3
  subst f3
  have hbn : b ≠ nb := by
    obtain ⟨vs, ho, _⟩ := h.d.t
    obtain ⟨_, _, cs, hb⟩ := own_blk (ho 2 (by omega)) (k := b) (by show (Value.slice z'.A3 n z'.d3).ownBlock = some b; rw [f1]; rfl)
    exact hb.ne_ h.g (Ne.symm tC_ne_tS)
  obtain ⟨g1, g2, g3, g4⟩ := e8 W2 A j c _ hj.len ((Fr.of_below hj.b).mono (fun i hi e => by omega)) (hj.s.base (by omega)) (fun i hi => .inr (hj.s.lt hi).1)
  have hg2 := h.g.below hj.b hg
  refine ⟨b, _, by rw [← f1]; exact (hg2.cell 9).trans rfl, by omega, g1, g2, Lib.hid ⟨g4.blk h.bx (by omega), g4.blk h.r (by omega), hg2.far (p := ⟨b, k, none⟩) (Ne.symm hbn) _, ⟨h.d.l1, h.d.l2, by simp; omega, ?_⟩, h.l.trans (g4.below h.l.size (fun i hi => by omega)), hlt, hle⟩⟩
  refine g3.congr (fun q hq => (upq2 _ _ _ _ q hq).trans ?_)
  show rw3 s.bf s.sq (((s.rq.take k).map (wo t) ++ s.rq.drop k).set k (wo t (gl s.rq k))) q = rw3 s.bf s.sq ((s.rq.take (k + 1)).map (wo t) ++ s.rq.drop (k + 1)) q
  rw [set_mid (by omega)]
end
set_option maxRecDepth 100000 in
set_option maxHeartbeats 8000000 in
theorem refCancel_any (w : World) (E : Nat → Prop) (z : ChZ) (n : Nat) (s : Ck) (h : DocC w E z n s) {K : Nat} (O : CkOk K n s) (hK : K ≤ 100000) (hn : n ≤ 1000) (t : Int) :
    Calls Try.prog 29 #[.agg (mkD z n), .int .i64 t] w fun e w' => ∃ z' : ChZ, e = .returned (.tuple #[.agg (mkD z' n), .bool (didV s t)]) ∧ DocC w' (fun k => w.heap.size ≤ k) z' n (cancelV s t) ∧ Below w.heap.size w w' := by
  obtain ⟨W0, hW0⟩ : ∃ W, W = (w.alloc (.cells (mkD z n) 28)).alloc (.cells zeroC 28) := ⟨_, rfl⟩
  have k0 : Blk W0 w.heap.size 28 (mkD z n) := by rw [hW0]; exact (Blk.new w _ _).alloc _
  have r0 : Blk W0 (w.heap.size + 1) 28 zeroC := by rw [hW0]; simpa using Blk.new (w.alloc (.cells (mkD z n) 28)) 28 zeroC
  have l0 : Below w.heap.size w W0 := by rw [hW0]; exact ((Below.refl _ w).alloc (Nat.le_refl _) _).alloc (by simp) _
  have z0 : W0.heap.size = w.heap.size + 1 + 1 := by rw [hW0]; simp
  have co := own_any W0 E z n s (h.below l0 (Nat.le_refl _)) (by omega) (fun i => by have := O.row i; omega) (fun i => by have := O.row i; omega) (fun i => by have := O.row i; omega)
  have hdoc := fun W (hb : Below w.heap.size w W) => h.rq.below hb (Nat.le_refl _)
  have hl3 := h.l3
  have hrow := fun i => O.row i
  have HW0 := Lib.hid hW0; have K0 := Lib.hid k0; have R0 := Lib.hid r0; have L0 := Lib.hid l0; have Z0 := Lib.hid z0; have CO := Lib.hid co; have HDOC := Lib.hid hdoc; have HL3 := Lib.hid hl3; have HROW := Lib.hid hrow
  clear hW0 k0 r0 l0 z0 co h O hdoc hl3 hrow
  go_enter Try.func29, Try.ntmps29
  go_upto_region 1 with fail
  rw [← HW0.out]
  clear HW0
  obtain ⟨x0, x1, x2, x3, x4, x5, x6, x7, x8, x9⟩ := blk10 K0.out
  go_wp2_with fail
  refine CO.out.mono ?_
  rintro e w1 ⟨z', B, rfl, hlt, hle, hd, hb⟩
  obtain ⟨nb, hnb⟩ : ∃ b, b = w1.heap.size := ⟨_, rfl⟩
  obtain ⟨W1, hW1⟩ : ∃ W, W = w1.alloc (.cells (mkD z' n) 28) := ⟨_, rfl⟩
  have hI : CaI w W1 B nb z z' n s t 0 := by
    have hlt2 : w.heap.size + 1 < B := by rw [Z0.out] at hlt; omega
    have h1 : Below w1.heap.size w1 W1 := by rw [hW1]; exact (Below.refl _ w1).alloc (Nat.le_refl _) _
    have hl := L0.out.trans (hb.mono L0.out.size)
    refine ⟨(K0.out.below hb K0.out.lt).below h1 (by have := (K0.out.below hb K0.out.lt).lt; omega), (R0.out.below hb R0.out.lt).below h1 (by have := (R0.out.below hb R0.out.lt).lt; omega), by rw [hnb, hW1]; exact Blk.new w1 _ _, ?_, hl.trans (h1.mono hl.size), hlt2, by omega⟩
    have := hd.fr (Fr.of_below h1) (fun k _ h1 h2 => by omega)
    simpa using this
  have HI0 := Lib.hid hI; have HW1 := Lib.hid hW1; have HNB := Lib.hid hnb
  clear hlt hle hd hb hW1 hI hnb x0 x1 x2 x3 x4 x5 x6 x7 x8 x9 K0 R0 L0 Z0 CO
  go_upto_region 2 with fail
  rw [← HW1.out, ← HNB.out]
  clear HW1 HNB
  go_wp2_with fail
  go_loopw [7, 8] (fun s7 s8 wr => ∃ (k : Nat) (d : Bool), k ≤ n ∧ s7 = .bool d ∧ s8 = .int .i64 (k : Int) ∧ Hid (CaI w wr B nb z z' n s t k) ∧ Hid (d = (s.rq.take k).any fun l => l.contains t)) (fun _ s8 _ => n - (intOf s8).toNat)
  case atStart => exact ⟨0, false, by omega, rfl, rfl, HI0, Lib.hid rfl⟩
  case round =>
    clear HI0
    obtain ⟨k, d, hk, rfl, rfl, HI, HDI⟩ := hrel
    obtain ⟨wk, hwk⟩ : ∃ W, W = wr := ⟨_, rfl⟩
    subst hwk
    have x9 : wk.cell? ⟨w.heap.size, 9, none⟩ = some (.slice z.A3 n z.d3) := (HI.out.bx.cell 9).trans rfl
    by_cases hlt : k < n
    · obtain ⟨ad, A1, c1, e1, _, _, e4, e6⟩ := (HDOC.out wk HI.out.l).at_ (i := k) (by rw [HL3.out]; exact hlt)
      obtain ⟨row, hrow⟩ : ∃ row, row = gl s.rq k := ⟨_, rfl⟩
      obtain ⟨rl, hrl⟩ : ∃ rl, rl = row.length := ⟨_, rfl⟩
      have hrk : rl ≤ 100000 := by rw [hrl, hrow]; have := HROW.out k; omega
      rw [e1] at x9
      rw [← hrow, ← hrl] at e4
      rw [← hrow] at e6
      have q1 : (k : Int) < (n : Int) := by omega
      have q0 : (0 : Int) ≤ (k : Int) := by omega
      have hcells : ∀ W, Below wk.heap.size wk W → W.cell? ⟨w.heap.size, 9, none⟩ = some (.slice (some ad) n z.d3) ∧ W.cell? (ad.add k) = some (.slice A1 rl c1) ∧ RN W E A1 c1 row := by
        intro W hb
        refine ⟨by rw [← e1]; exact ((HI.out.bx.below hb HI.out.bx.lt).cell 9).trans rfl, ?_, e6.below hb (Nat.le_refl _)⟩
        obtain ⟨ad', A1', c1', e1', _, hlt', e4', _⟩ := (HDOC.out wk HI.out.l).at_ (i := k) (by rw [HL3.out]; exact hlt)
        rw [e1] at e1'
        injection e1' with e1'
        subst e1'
        exact (hb.cell (by rw [block_of_add]; exact hlt')).trans e4
      have HC := Lib.hid hcells; have HRW := Lib.hid hrow; have HRL := Lib.hid hrl
      clear hcells hrow hrl e1 e6
      go_wp2_with fail
      clear x9 e4
      go_loopw [7, 9, 10] (fun s7 s9 s10 wj => ∃ (i : Nat) (d2 : Bool) (A : Option Addr) (j c : Nat), i ≤ rl ∧ s7 = .bool d2 ∧ s9 = .slice A j c ∧ s10 = .int .i64 (i : Int) ∧ Hid (CaJ wk wj A j c (wo t (row.take i))) ∧ Hid (d2 = (d || (row.take i).contains t)) ∧ Hid (j ≤ i)) (fun _ _ s10 _ => rl - (intOf s10).toNat)
      case atStart => exact ⟨0, d, none, 0, 0, by omega, rfl, rfl, rfl, Lib.hid (CaJ.start wk), Lib.hid (by simp), Lib.hid (Nat.le_refl _)⟩
      case round =>
        obtain ⟨i, d2, A, j, c, hi, rfl, rfl, rfl, HJ, HD2, HJI⟩ := hrel
        obtain ⟨x9, e4, e6⟩ := HC.out wr HJ.out.b
        by_cases hlti : i < rl
        · have q3 : (i : Int) < (rl : Int) := by omega
          have q2 : (0 : Int) ≤ (i : Int) := by omega
          obtain ⟨bd, rfl, _, _, g4⟩ := e6.at_ (i := i) (by rw [← HRL.out]; exact hlti)
          have htk := take_gn (l := row) (i := i) (by rw [← HRL.out]; exact hlti)
          have HTK := Lib.hid htk
          have hjj := HJI.out
          clear htk e6
          generalize gn row i = y at *
          by_cases hy : y = t
          · have HY := Lib.hid hy
            go_wp2_with fail
            exact ⟨⟨i + 1, true, A, j, c, by omega, rfl, rfl, by go_num, Lib.hid (by rw [HTK.out, wo_snoc_eq HY.out]; exact HJ.out), Lib.hid (by rw [HTK.out]; simp [HY.out]), Lib.hid (by omega)⟩, by simp [intOf]; omega⟩
          · have hy2 : (y == t) = false := by simpa using hy
            have HY := Lib.hid hy
            clear hy
            have hjl := HJ.out.len
            have HJL := Lib.hid hjl
            clear hjl
            go_wp2_with (at_builtin; go_must (refine wpList_append_sl rfl (.tmp 40) (.tmp 49) rfl wk.heap.size (.slice A j c) (wo t (row.take i)) [y] rfl (HJ.out.s.fr ((Fr.refl (fun _ => False) wr).alloc _) (fun _ _ h => h)) ⟨wr.heap.size, 0, none⟩ 1 1 rfl rfl (reads_one_c wr y _) ?f1 ?f2 ?f3))
            case f1 => rw [HJL.out]; omega
            case f2 => have := HJ.out.b.size; simp; omega
            case f3 =>
            rw [HJL.out]
            intro A' c' w3 hs hf hk'
            have HN := Lib.hid (HJ.out.next hs hf)
            clear hs hf hk' x9 e4 g4
            go_wp2_with fail
            exact ⟨⟨i + 1, d2, A', j + 1, c', by omega, rfl, rfl, by go_num, Lib.hid (by rw [HTK.out, wo_snoc_ne HY.out]; exact HN.out), Lib.hid (by rw [HTK.out]; have := HY.out; have h3 : ¬ t = y := fun e => this e.symm; simp [HD2.out, h3]), Lib.hid (by omega)⟩, by simp [intOf]; omega⟩
        · obtain rfl : i = rl := by omega
          have htk : row.take i = row := List.take_of_length_le (by rw [← HRL.out]; exact Nat.le_refl _)
          have hj2 := HJ.out
          rw [htk, HRW.out] at hj2
          obtain ⟨b, u, a1, a2, a3, a4, HN⟩ := HI.out.next hlt HL3.out hj2
          have hd2 := HD2.out
          rw [htk] at hd2
          have HD3 := Lib.hid hd2
          have c9 : k < z'.d3 := by omega
          clear htk hj2 hd2 HJ e6
          go_wp2_with fail
          refine ⟨⟨k + 1, d2, by omega, rfl, by go_num, HN, Lib.hid ?_⟩, by simp [intOf]; omega⟩
          rw [HD3.out, List.take_add_one, gl_some (by rw [HL3.out]; exact hlt), List.any_append, HDI.out, HRW.out]
          simp
    · obtain rfl : k = n := by omega
      have hd := HI.out.d
      have hrq : (s.rq.take k).map (wo t) ++ s.rq.drop k = s.rq.map (wo t) := by
        rw [List.take_of_length_le (by rw [HL3.out]; exact Nat.le_refl _), List.drop_of_length_le (by rw [HL3.out]; exact Nat.le_refl _), List.append_nil]
      rw [hrq] at hd
      have hdid : d = didV s t := by
        rw [HDI.out, List.take_of_length_le (by rw [HL3.out]; exact Nat.le_refl _)]
        rfl
      have HE := Lib.hid (doc_fin2 HI.out.r HI.out.l (hd.doc.mono (fun i hi _ => by have := HI.out.lt; omega)))
      have HDD := Lib.hid hdid
      have HR := Lib.hid HI.out.r
      obtain ⟨g0, g1, g2, g3, g4, g5, g6, g7, g8, g9⟩ := blk10 HI.out.g
      clear hd hrq hdid HI HDI
      obtain ⟨s0, s1, s2, s3, s4, s5, s6, s7, s8, s9⟩ := blk10 HR.out
      have t0 := HR.out.frozen 0
      have t1 := HR.out.frozen 1
      have t2 := HR.out.frozen 2
      have t3 := HR.out.frozen 3
      have t4 := HR.out.frozen 4
      have t5 := HR.out.frozen 5
      have t6 := HR.out.frozen 6
      have t7 := HR.out.frozen 7
      have t8 := HR.out.frozen 8
      have t9 := HR.out.frozen 9
      go_wp2_with fail
      refine bodyPost_ret (v := .tuple #[.agg (mkD z' k), .bool d]) (resC_1 rfl _ _ (w.heap.size + 1) 28 _ (0, 0) _ _ rfl rfl HE.out.1 Try.underlying28 rfl (by kernel_rfl)) rfl ?_
      exact ⟨z', by rw [HDD.out], HE.out.2.1, HE.out.2.2⟩
end Go.Proofs.Ytbgigkamlnchcaa
