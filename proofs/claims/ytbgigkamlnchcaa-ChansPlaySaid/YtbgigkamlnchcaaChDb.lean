
/-
  The document's states of channels: own; what the boxes of its calls hold.
-/
import Derived.Test.YtbgigkamlnchcaaChDa
set_option linter.unusedVariables false
set_option linter.unusedSimpArgs false
namespace Go.Proofs.Ytbgigkamlnchcaa
open Go.RowKit Plain

/-- Three rows of rows that were made one behind another. -/
theorem DT.of3 {w : World} {v : Nat → Value} {L : Nat → List (List Int)} {B : Nat} (lo hi : Nat → Nat) (h : ∀ q, q < 3 → OwnSS w (lo q) (hi q) (v q) (L q)) (hB : ∀ q, q < 3 → B ≤ lo q) (hlt : ∀ q q', q < q' → q' < 3 → hi q ≤ lo q') : DT w B v L := by
  have h2 : ∃ vs : Nat → List Value, ∀ q, q < 3 → (w.ownsRow (lo q) 25 1 (v q) (L q).length (vs q) ∧ (∀ k, (v q).ownBlock = some k → k < hi q) ∧
    (∀ (i : Nat) (l : List Int), (L q)[i]? = some l → ∃ x, (vs q)[i]? = some x ∧ OwnI w (lo q) x l ∧ ∀ k, x.ownBlock = some k → k < hi q) ∧
    (∀ (i j : Nat) (x y : Value), (vs q)[i]? = some x → (vs q)[j]? = some y → i ≠ j → ∀ k, x.ownBlock = some k → y.ownBlock ≠ some k)) := by
    obtain ⟨v0, h0⟩ := h 0 (by omega)
    obtain ⟨v1, h1⟩ := h 1 (by omega)
    obtain ⟨v2, h2⟩ := h 2 (by omega)
    refine ⟨rw3 v0 v1 v2, fun q hq => ?_⟩
    match q, hq with
    | 0, _ => exact h0
    | 1, _ => exact h1
    | 2, _ => exact h2
  obtain ⟨vs, hvs⟩ := h2
  have hblk : ∀ (q i : Nat) (x : Value) (k : Nat), q < 3 → (vs q)[i]? = some x → x.ownBlock = some k → lo q ≤ k ∧ k < hi q := by
    intro q i x k hq hi' hk
    obtain ⟨h1, h2, h3, h4⟩ := hvs q hq
    have hil : i < (L q).length := by
      have := h1.1
      have := (List.getElem?_eq_some_iff.1 hi').1
      omega
    obtain ⟨y, ey, hy, hl⟩ := h3 i _ (gl_some hil)
    rw [hi'] at ey
    injection ey with ey
    subst ey
    exact ⟨(own_blk hy hk).1, hl k hk⟩
  have htri : ∀ q q' k, q < 3 → q' < 3 → lo q ≤ k → k < hi q → lo q' ≤ k → k < hi q' → q = q' := by
    intro q q' k hq hq' a1 a2 a3 a4
    rcases Nat.lt_trichotomy q q' with h | h | h
    · have := hlt q q' h hq'
      omega
    · exact h
    · have := hlt q' q h hq
      omega
  refine ⟨vs, fun q hq => own_base (hvs q hq).1 (hB q hq), fun q i l hq hi' => ?_, fun q i q' i' x x' k hq hq' e1 e2 k1 k2 => ?_, fun q q' k hq hq' k1 k2 => ?_⟩
  · obtain ⟨h1, h2, h3, h4⟩ := hvs q hq
    obtain ⟨x, ex, hx, _⟩ := h3 i l hi'
    exact ⟨x, ex, (SlI.of_own hx).base (hB q hq)⟩
  · have a := hblk q i x k hq e1 k1
    have b := hblk q' i' x' k hq' e2 k2
    have hqq := htri q q' k hq hq' a.1 a.2 b.1 b.2
    subst hqq
    refine ⟨rfl, ?_⟩
    rcases Nat.decEq i i' with hne | he
    · exact absurd k2 ((hvs q hq).2.2.2 i i' x x' e1 e2 hne k k1)
    · exact he
  · have a := (own_blk (hvs q hq).1 k1).1
    have b := (own_blk (hvs q' hq').1 k2).1
    exact htri q q' k hq hq' a ((hvs q hq).2.1 k k1) b ((hvs q' hq').2.1 k k2)
/-- A whole box is written. -/
theorem Blk.set10 {W : World} {g : Nat} {T : TypeId} {x0 x1 x2 x3 x4 x5 x6 x7 x8 x9 : Value} (h : Blk W g T #[x0, x1, x2, x3, x4, x5, x6, x7, x8, x9]) (a0 a1 a2 a3 a4 a5 a6 a7 a8 a9 : Value) :
    Blk ((((((((((W.setCell ⟨g, 0, none⟩ a0).setCell ⟨g, 1, none⟩ a1).setCell ⟨g, 2, none⟩ a2).setCell ⟨g, 3, none⟩ a3).setCell ⟨g, 4, none⟩ a4).setCell ⟨g, 5, none⟩ a5).setCell ⟨g, 6, none⟩ a6).setCell ⟨g, 7, none⟩ a7).setCell ⟨g, 8, none⟩ a8).setCell ⟨g, 9, none⟩ a9) g T #[a0, a1, a2, a3, a4, a5, a6, a7, a8, a9] := by
  have := (((((((((h.set_ 0 a0).set_ 1 a1).set_ 2 a2).set_ 3 a3).set_ 4 a4).set_ 5 a5).set_ 6 a6).set_ 7 a7).set_ 8 a8).set_ 9 a9
  simpa using this
theorem fr_set10 (W : World) (g : Nat) (a0 a1 a2 a3 a4 a5 a6 a7 a8 a9 : Value) : Fr (fun k => k = g) W ((((((((((W.setCell ⟨g, 0, none⟩ a0).setCell ⟨g, 1, none⟩ a1).setCell ⟨g, 2, none⟩ a2).setCell ⟨g, 3, none⟩ a3).setCell ⟨g, 4, none⟩ a4).setCell ⟨g, 5, none⟩ a5).setCell ⟨g, 6, none⟩ a6).setCell ⟨g, 7, none⟩ a7).setCell ⟨g, 8, none⟩ a8).setCell ⟨g, 9, none⟩ a9) := by
  have st : ∀ (X : World) (j : Nat) (v : Value), Fr (fun k => k = g) W X → Fr (fun k => k = g) W (X.setCell ⟨g, j, none⟩ v) := fun X j v h => h.setCell (p := ⟨g, j, none⟩) (.inl rfl) v
  exact st _ 9 _ (st _ 8 _ (st _ 7 _ (st _ 6 _ (st _ 5 _ (st _ 4 _ (st _ 3 _ (st _ 2 _ (st _ 1 _ (st _ 0 _ (Fr.refl _ W))))))))))
section
variable {P : Program}
theorem resC_1 {fn : Func} {p q0 : Tmp} {ty : TypeId} (h : fn.results = #[.cell p ty, .tmp q0]) (tmps : Array Value) (w : World) (g : Nat) (t : TypeId) (cs : Array Value) (fr : Nat × Nat) (d : TypeDesc) (u0 : Value)
    (hp : tmps.getD p undef = .pointer (some ⟨g, 0, none⟩)) (hq0 : tmps.getD q0 undef = u0) (hg : w.heap[g]? = some (.cells cs t fr))
    (hu : P.underlying ty = some d) (hd : (match d with | .struct _ | .array _ _ => true | _ => false) = true) (hi : (P.info? ty).map (·.size) = some cs.size) :
    (results fn tmps).run P w = .ok (.tuple #[.agg cs, u0]) w := by
  have hp' : tmps[p]?.getD undef = .pointer (some ⟨g, 0, none⟩) := by simpa using hp
  have hq0' : tmps[q0]?.getD undef = u0 := by simpa using hq0
  simp [results, h, hp', hq0', asAddr, run_loadVar_row w g t ty cs fr d hg hu hd hi]
theorem resC_2 {fn : Func} {p q0 q1 : Tmp} {ty : TypeId} (h : fn.results = #[.cell p ty, .tmp q0, .tmp q1]) (tmps : Array Value) (w : World) (g : Nat) (t : TypeId) (cs : Array Value) (fr : Nat × Nat) (d : TypeDesc) (u0 u1 : Value)
    (hp : tmps.getD p undef = .pointer (some ⟨g, 0, none⟩)) (hq0 : tmps.getD q0 undef = u0) (hq1 : tmps.getD q1 undef = u1) (hg : w.heap[g]? = some (.cells cs t fr))
    (hu : P.underlying ty = some d) (hd : (match d with | .struct _ | .array _ _ => true | _ => false) = true) (hi : (P.info? ty).map (·.size) = some cs.size) :
    (results fn tmps).run P w = .ok (.tuple #[.agg cs, u0, u1]) w := by
  have hp' : tmps[p]?.getD undef = .pointer (some ⟨g, 0, none⟩) := by simpa using hp
  have hq0' : tmps[q0]?.getD undef = u0 := by simpa using hq0
  have hq1' : tmps[q1]?.getD undef = u1 := by simpa using hq1
  simp [results, h, hp', hq0', hq1', asAddr, run_loadVar_row w g t ty cs fr d hg hu hd hi]
theorem resC_3 {fn : Func} {p q0 q1 q2 : Tmp} {ty : TypeId} (h : fn.results = #[.cell p ty, .tmp q0, .tmp q1, .tmp q2]) (tmps : Array Value) (w : World) (g : Nat) (t : TypeId) (cs : Array Value) (fr : Nat × Nat) (d : TypeDesc) (u0 u1 u2 : Value)
    (hp : tmps.getD p undef = .pointer (some ⟨g, 0, none⟩)) (hq0 : tmps.getD q0 undef = u0) (hq1 : tmps.getD q1 undef = u1) (hq2 : tmps.getD q2 undef = u2) (hg : w.heap[g]? = some (.cells cs t fr))
    (hu : P.underlying ty = some d) (hd : (match d with | .struct _ | .array _ _ => true | _ => false) = true) (hi : (P.info? ty).map (·.size) = some cs.size) :
    (results fn tmps).run P w = .ok (.tuple #[.agg cs, u0, u1, u2]) w := by
  have hp' : tmps[p]?.getD undef = .pointer (some ⟨g, 0, none⟩) := by simpa using hp
  have hq0' : tmps[q0]?.getD undef = u0 := by simpa using hq0
  have hq1' : tmps[q1]?.getD undef = u1 := by simpa using hq1
  have hq2' : tmps[q2]?.getD undef = u2 := by simpa using hq2
  simp [results, h, hp', hq0', hq1', hq2', asAddr, run_loadVar_row w g t ty cs fr d hg hu hd hi]
theorem resC_4 {fn : Func} {p q0 q1 q2 q3 : Tmp} {ty : TypeId} (h : fn.results = #[.cell p ty, .tmp q0, .tmp q1, .tmp q2, .tmp q3]) (tmps : Array Value) (w : World) (g : Nat) (t : TypeId) (cs : Array Value) (fr : Nat × Nat) (d : TypeDesc) (u0 u1 u2 u3 : Value)
    (hp : tmps.getD p undef = .pointer (some ⟨g, 0, none⟩)) (hq0 : tmps.getD q0 undef = u0) (hq1 : tmps.getD q1 undef = u1) (hq2 : tmps.getD q2 undef = u2) (hq3 : tmps.getD q3 undef = u3) (hg : w.heap[g]? = some (.cells cs t fr))
    (hu : P.underlying ty = some d) (hd : (match d with | .struct _ | .array _ _ => true | _ => false) = true) (hi : (P.info? ty).map (·.size) = some cs.size) :
    (results fn tmps).run P w = .ok (.tuple #[.agg cs, u0, u1, u2, u3]) w := by
  have hp' : tmps[p]?.getD undef = .pointer (some ⟨g, 0, none⟩) := by simpa using hp
  have hq0' : tmps[q0]?.getD undef = u0 := by simpa using hq0
  have hq1' : tmps[q1]?.getD undef = u1 := by simpa using hq1
  have hq2' : tmps[q2]?.getD undef = u2 := by simpa using hq2
  have hq3' : tmps[q3]?.getD undef = u3 := by simpa using hq3
  simp [results, h, hp', hq0', hq1', hq2', hq3', asAddr, run_loadVar_row w g t ty cs fr d hg hu hd hi]
end
/-- What the boxes of a call of the document's hold, behind own. -/
structure DB (w W : World) (B : Nat) (z : ChZ) (n : Nat) (s : Ck) : Prop where
  k : Blk W w.heap.size 28 (mkD z n)
  r : Blk W (w.heap.size + 1) 28 zeroC
  d : DO W B z n s
  l : Below w.heap.size w W
  lt : w.heap.size + 1 < B
  le : B ≤ W.heap.size
section
variable {w W W2 : World} {B n : Nat} {z : ChZ} {s : Ck}
theorem DB.drewN (h : DB w W B z n s) (j : Nat) : DB w (W.drewN j) B z n s := ⟨h.k.drewN j, h.r.drewN j, h.d.fr ((Fr.refl (fun _ => False) W).drewN j) (fun _ _ _ h => h), below_drews h.l j, h.lt, h.le⟩
theorem DB.later (h : DB w W B z n s) (hb : Below W.heap.size W W2) : DB w W2 B z n s :=
  ⟨h.k.below hb h.k.lt, h.r.below hb h.r.lt, h.d.fr (Fr.of_below hb) (fun k _ h1 h2 => by omega), h.l.trans (hb.mono h.l.size), h.lt, by have := hb.size; have := h.le; omega⟩
theorem DB.turn (h : DB w W B z n s) {s' : Ck} (hf : Fr (fun k => B ≤ k) W W2) (hd : DO W2 B z n s') : DB w W2 B z n s' := by
  have h1 := h.lt
  have h2 := h.le
  have h3 := h.l.size
  exact ⟨hf.blk h.k (by omega), hf.blk h.r (by omega), hd, h.l.trans (hf.below h3 (fun i hi => by omega)), h1, by have := hf.size; omega⟩
theorem DB.at_bf (h : DB w W B z n s) {m : Nat} (hm : m < n) : ∃ b A c, z.A1 = some ⟨b, 0, none⟩ ∧ n ≤ z.d1 ∧ B ≤ b ∧ b < W.heap.size ∧ W.cell? ⟨b, m, none⟩ = some (.slice A (gl s.bf m).length c) ∧ (∀ j, W.frozen? ⟨b, j, none⟩ = false) ∧ SlI W B (.slice A (gl s.bf m).length c) (gl s.bf m) ∧
    ∀ (w2 : World) (A' : Option Addr) (n' c' : Nat) (l' : List Int), l'.length = n' → Fr (fun k => (Value.slice A (gl s.bf m).length c).ownBlock = some k) W w2 → SlI w2 B (.slice A' n' c') l' → (∀ k, (Value.slice A' n' c').ownBlock = some k → (Value.slice A (gl s.bf m).length c).ownBlock = some k ∨ W.heap.size ≤ k) →
      (w2.cell? ⟨w.heap.size, 4, none⟩ = some (.slice (some ⟨b, 0, none⟩) n z.d1) ∧ w2.cell? ⟨b, m, none⟩ = some (.slice A (gl s.bf m).length c) ∧ w2.frozen? ⟨b, m, none⟩ = false) ∧ DB w (w2.setCell ⟨b, m, none⟩ (.slice A' n' c')) B z n { s with bf := s.bf.set m l' } := by
  obtain ⟨b, cap, A, c, e1, e2, e3, e4, e5, e6, e7, e8⟩ := h.d.t.at_ h.le (q := 0) (i := m) (by omega) (by show m < s.bf.length; rw [h.d.l1]; exact hm)
  have e1' : Value.slice z.A1 n z.d1 = .slice (some ⟨b, 0, none⟩) s.bf.length cap := e1
  injection e1' with f1 f2 f3
  subst f3
  have e2' : s.bf.length ≤ z.d1 := e2
  refine ⟨b, A, c, f1, by omega, e3, e4, e5, e6, e7, fun w2 A' n' c' l' hn hf hs hk => ?_⟩
  obtain ⟨g1, g2, g3, g4⟩ := e8 w2 A' n' c' l' hn hf hs hk
  have hkb := hf.blk h.k (fun e => by have := (e7.lt e).1; have := h.lt; omega)
  refine ⟨⟨by rw [← f1]; exact (hkb.cell 4).trans rfl, g1, g2⟩, h.turn g4 ⟨by simpa using h.d.l1, h.d.l2, h.d.l3, ?_⟩⟩
  exact g3.congr (fun q hq => by rw [upq0]; rfl)
theorem DB.at_sq (h : DB w W B z n s) {m : Nat} (hm : m < n) : ∃ b A c, z.A2 = some ⟨b, 0, none⟩ ∧ n ≤ z.d2 ∧ B ≤ b ∧ b < W.heap.size ∧ W.cell? ⟨b, m, none⟩ = some (.slice A (gl s.sq m).length c) ∧ (∀ j, W.frozen? ⟨b, j, none⟩ = false) ∧ SlI W B (.slice A (gl s.sq m).length c) (gl s.sq m) ∧
    ∀ (w2 : World) (A' : Option Addr) (n' c' : Nat) (l' : List Int), l'.length = n' → Fr (fun k => (Value.slice A (gl s.sq m).length c).ownBlock = some k) W w2 → SlI w2 B (.slice A' n' c') l' → (∀ k, (Value.slice A' n' c').ownBlock = some k → (Value.slice A (gl s.sq m).length c).ownBlock = some k ∨ W.heap.size ≤ k) →
      (w2.cell? ⟨w.heap.size, 8, none⟩ = some (.slice (some ⟨b, 0, none⟩) n z.d2) ∧ w2.cell? ⟨b, m, none⟩ = some (.slice A (gl s.sq m).length c) ∧ w2.frozen? ⟨b, m, none⟩ = false) ∧ DB w (w2.setCell ⟨b, m, none⟩ (.slice A' n' c')) B z n { s with sq := s.sq.set m l' } := by
  obtain ⟨b, cap, A, c, e1, e2, e3, e4, e5, e6, e7, e8⟩ := h.d.t.at_ h.le (q := 1) (i := m) (by omega) (by show m < s.sq.length; rw [h.d.l2]; exact hm)
  have e1' : Value.slice z.A2 n z.d2 = .slice (some ⟨b, 0, none⟩) s.sq.length cap := e1
  injection e1' with f1 f2 f3
  subst f3
  have e2' : s.sq.length ≤ z.d2 := e2
  refine ⟨b, A, c, f1, by omega, e3, e4, e5, e6, e7, fun w2 A' n' c' l' hn hf hs hk => ?_⟩
  obtain ⟨g1, g2, g3, g4⟩ := e8 w2 A' n' c' l' hn hf hs hk
  have hkb := hf.blk h.k (fun e => by have := (e7.lt e).1; have := h.lt; omega)
  refine ⟨⟨by rw [← f1]; exact (hkb.cell 8).trans rfl, g1, g2⟩, h.turn g4 ⟨h.d.l1, by simpa using h.d.l2, h.d.l3, ?_⟩⟩
  exact g3.congr (fun q hq => upq1 _ _ _ _ q hq)
theorem DB.at_rq (h : DB w W B z n s) {m : Nat} (hm : m < n) : ∃ b A c, z.A3 = some ⟨b, 0, none⟩ ∧ n ≤ z.d3 ∧ B ≤ b ∧ b < W.heap.size ∧ W.cell? ⟨b, m, none⟩ = some (.slice A (gl s.rq m).length c) ∧ (∀ j, W.frozen? ⟨b, j, none⟩ = false) ∧ SlI W B (.slice A (gl s.rq m).length c) (gl s.rq m) ∧
    ∀ (w2 : World) (A' : Option Addr) (n' c' : Nat) (l' : List Int), l'.length = n' → Fr (fun k => (Value.slice A (gl s.rq m).length c).ownBlock = some k) W w2 → SlI w2 B (.slice A' n' c') l' → (∀ k, (Value.slice A' n' c').ownBlock = some k → (Value.slice A (gl s.rq m).length c).ownBlock = some k ∨ W.heap.size ≤ k) →
      (w2.cell? ⟨w.heap.size, 9, none⟩ = some (.slice (some ⟨b, 0, none⟩) n z.d3) ∧ w2.cell? ⟨b, m, none⟩ = some (.slice A (gl s.rq m).length c) ∧ w2.frozen? ⟨b, m, none⟩ = false) ∧ DB w (w2.setCell ⟨b, m, none⟩ (.slice A' n' c')) B z n { s with rq := s.rq.set m l' } := by
  obtain ⟨b, cap, A, c, e1, e2, e3, e4, e5, e6, e7, e8⟩ := h.d.t.at_ h.le (q := 2) (i := m) (by omega) (by show m < s.rq.length; rw [h.d.l3]; exact hm)
  have e1' : Value.slice z.A3 n z.d3 = .slice (some ⟨b, 0, none⟩) s.rq.length cap := e1
  injection e1' with f1 f2 f3
  subst f3
  have e2' : s.rq.length ≤ z.d3 := e2
  refine ⟨b, A, c, f1, by omega, e3, e4, e5, e6, e7, fun w2 A' n' c' l' hn hf hs hk => ?_⟩
  obtain ⟨g1, g2, g3, g4⟩ := e8 w2 A' n' c' l' hn hf hs hk
  have hkb := hf.blk h.k (fun e => by have := (e7.lt e).1; have := h.lt; omega)
  refine ⟨⟨by rw [← f1]; exact (hkb.cell 9).trans rfl, g1, g2⟩, h.turn g4 ⟨h.d.l1, h.d.l2, by simpa using h.d.l3, ?_⟩⟩
  exact g3.congr (fun q hq => upq2 _ _ _ _ q hq)

theorem DB.own_ne (h : DB w W B z n s) {b : Nat} (e : z.A3 = some ⟨b, 0, none⟩) {m : Nat} (hm : m < n) {x : Value} (hx : W.cell? ⟨b, m, none⟩ = some x) : x.ownBlock ≠ some b := by
  obtain ⟨b', A, c, e1, _, _, _, e5, _, e7, _⟩ := h.at_rq hm
  rw [e] at e1
  injection e1 with e1
  injection e1 with e1
  subst e1
  rw [hx] at e5
  injection e5 with e5
  subst e5
  obtain ⟨vs, ho, _⟩ := h.d.t
  exact fun hk => own_sl_ne (ho 2 (by omega)) e7 hk (by show (Value.slice z.A3 n z.d3).ownBlock = some b; rw [e]; rfl)
/-- What lies in a channel lies elsewhere than who waits to send. -/
theorem DB.apart (h : DB w W B z n s) {b b' : Nat} (e : z.A1 = some ⟨b, 0, none⟩) (e' : z.A2 = some ⟨b', 0, none⟩) {m : Nat} (hm : m < n) {x x' : Value} (hx : W.cell? ⟨b, m, none⟩ = some x) (hx' : W.cell? ⟨b', m, none⟩ = some x') :
    b ≠ b' ∧ (∀ k, x.ownBlock = some k → k ≠ b ∧ k ≠ b' ∧ x'.ownBlock ≠ some k) ∧ ∀ k, x'.ownBlock = some k → k ≠ b := by
  obtain ⟨vs, ho, hr, hd, he⟩ := h.d.t
  have ho0 : W.ownsRow B 25 1 (.slice z.A1 n z.d1) s.bf.length (vs 0) := ho 0 (by omega)
  have ho1 : W.ownsRow B 25 1 (.slice z.A2 n z.d2) s.sq.length (vs 1) := ho 1 (by omega)
  have hl1 := h.d.l1
  have hl2 := h.d.l2
  have hget : ∀ {v : Value} {k : Nat} {us : List Value} {g : Nat} {A : Option Addr} {d : Nat} {y : Value}, W.ownsRow B 25 1 (.slice A n d) k us → A = some ⟨g, 0, none⟩ → m < k → W.cell? ⟨g, m, none⟩ = some y → us[m]? = some y := by
    intro v k us g A d y h1 h2 h3 h4
    subst h2
    obtain ⟨b, cap, cs, e, hc, hb, hbl, hob, hblk, hcl, ht⟩ := own_form h1 (by omega)
    injection e with e
    injection e with e
    injection e with e
    subst e
    rw [hblk.cell] at h4
    rw [← ht, List.getElem?_take_of_lt h3]
    simpa using h4
  have hb0 : (Value.slice z.A1 n z.d1).ownBlock = some b := by rw [e]; rfl
  have hb1 : (Value.slice z.A2 n z.d2).ownBlock = some b' := by rw [e']; rfl
  have v0 := hget (v := x) ho0 e (by omega) hx
  have v1 := hget (v := x) ho1 e' (by omega) hx'
  obtain ⟨y0, w0, s0⟩ := hr 0 m _ (by omega) (gl_some (l := s.bf) (by omega))
  obtain ⟨y1, w1, s1⟩ := hr 1 m _ (by omega) (gl_some (l := s.sq) (by omega))
  rw [v0] at w0
  injection w0 with w0
  subst w0
  rw [v1] at w1
  injection w1 with w1
  subst w1
  refine ⟨fun hbb => ?_, fun k hk => ⟨fun hkb => ?_, fun hkb => ?_, fun hk' => ?_⟩, fun k hk hkb => ?_⟩
  · have := he 0 1 b (by omega) (by omega) hb0 (by rw [hbb]; exact hb1)
    omega
  · exact own_sl_ne ho0 s0 hk (by rw [hkb]; exact hb0)
  · exact own_sl_ne ho1 s0 hk (by rw [hkb]; exact hb1)
  · have := (hd 0 m 1 m _ _ k (by omega) (by omega) v0 v1 hk hk').1
    omega
  · exact own_sl_ne ho0 s1 hk (by rw [hkb]; exact hb0)
/-- The end of a call: the result is written. -/
theorem doc_fin2 (hr : Blk W (w.heap.size + 1) 28 zeroC) (hl : Below w.heap.size w W) (hd : DocC W (fun k => w.heap.size + 1 < k) z n s) :
    Blk ((((((((((W.setCell ⟨w.heap.size + 1, 0, none⟩ (.int .i64 0)).setCell ⟨w.heap.size + 1, 1, none⟩ (.slice none 0 0)).setCell ⟨w.heap.size + 1, 2, none⟩ (.slice none 0 0)).setCell ⟨w.heap.size + 1, 3, none⟩ (.slice none 0 0)).setCell ⟨w.heap.size + 1, 4, none⟩ (.slice z.A1 n z.d1)).setCell ⟨w.heap.size + 1, 5, none⟩ (.slice none 0 0)).setCell ⟨w.heap.size + 1, 6, none⟩ (.slice none 0 0)).setCell ⟨w.heap.size + 1, 7, none⟩ (.slice none 0 0)).setCell ⟨w.heap.size + 1, 8, none⟩ (.slice z.A2 n z.d2)).setCell ⟨w.heap.size + 1, 9, none⟩ (.slice z.A3 n z.d3)) (w.heap.size + 1) 28 (mkD z n) ∧
    DocC ((((((((((W.setCell ⟨w.heap.size + 1, 0, none⟩ (.int .i64 0)).setCell ⟨w.heap.size + 1, 1, none⟩ (.slice none 0 0)).setCell ⟨w.heap.size + 1, 2, none⟩ (.slice none 0 0)).setCell ⟨w.heap.size + 1, 3, none⟩ (.slice none 0 0)).setCell ⟨w.heap.size + 1, 4, none⟩ (.slice z.A1 n z.d1)).setCell ⟨w.heap.size + 1, 5, none⟩ (.slice none 0 0)).setCell ⟨w.heap.size + 1, 6, none⟩ (.slice none 0 0)).setCell ⟨w.heap.size + 1, 7, none⟩ (.slice none 0 0)).setCell ⟨w.heap.size + 1, 8, none⟩ (.slice z.A2 n z.d2)).setCell ⟨w.heap.size + 1, 9, none⟩ (.slice z.A3 n z.d3)) (fun k => w.heap.size ≤ k) z n s ∧
    Below w.heap.size w ((((((((((W.setCell ⟨w.heap.size + 1, 0, none⟩ (.int .i64 0)).setCell ⟨w.heap.size + 1, 1, none⟩ (.slice none 0 0)).setCell ⟨w.heap.size + 1, 2, none⟩ (.slice none 0 0)).setCell ⟨w.heap.size + 1, 3, none⟩ (.slice none 0 0)).setCell ⟨w.heap.size + 1, 4, none⟩ (.slice z.A1 n z.d1)).setCell ⟨w.heap.size + 1, 5, none⟩ (.slice none 0 0)).setCell ⟨w.heap.size + 1, 6, none⟩ (.slice none 0 0)).setCell ⟨w.heap.size + 1, 7, none⟩ (.slice none 0 0)).setCell ⟨w.heap.size + 1, 8, none⟩ (.slice z.A2 n z.d2)).setCell ⟨w.heap.size + 1, 9, none⟩ (.slice z.A3 n z.d3)) := by
  have hF := fr_set10 W (w.heap.size + 1) (.int .i64 0) (.slice none 0 0) (.slice none 0 0) (.slice none 0 0) (.slice z.A1 n z.d1) (.slice none 0 0) (.slice none 0 0) (.slice none 0 0) (.slice z.A2 n z.d2) (.slice z.A3 n z.d3)
  exact ⟨hr.set10 _ _ _ _ _ _ _ _ _ _, (hd.fr hF (fun i hi _ e => by omega)).mono (fun i hi _ => by omega), hl.trans (hF.below hl.size (fun i hi => by omega))⟩
theorem doc_fin (h : DB w W B z n s) :
    Blk ((((((((((W.setCell ⟨w.heap.size + 1, 0, none⟩ (.int .i64 0)).setCell ⟨w.heap.size + 1, 1, none⟩ (.slice none 0 0)).setCell ⟨w.heap.size + 1, 2, none⟩ (.slice none 0 0)).setCell ⟨w.heap.size + 1, 3, none⟩ (.slice none 0 0)).setCell ⟨w.heap.size + 1, 4, none⟩ (.slice z.A1 n z.d1)).setCell ⟨w.heap.size + 1, 5, none⟩ (.slice none 0 0)).setCell ⟨w.heap.size + 1, 6, none⟩ (.slice none 0 0)).setCell ⟨w.heap.size + 1, 7, none⟩ (.slice none 0 0)).setCell ⟨w.heap.size + 1, 8, none⟩ (.slice z.A2 n z.d2)).setCell ⟨w.heap.size + 1, 9, none⟩ (.slice z.A3 n z.d3)) (w.heap.size + 1) 28 (mkD z n) ∧
    DocC ((((((((((W.setCell ⟨w.heap.size + 1, 0, none⟩ (.int .i64 0)).setCell ⟨w.heap.size + 1, 1, none⟩ (.slice none 0 0)).setCell ⟨w.heap.size + 1, 2, none⟩ (.slice none 0 0)).setCell ⟨w.heap.size + 1, 3, none⟩ (.slice none 0 0)).setCell ⟨w.heap.size + 1, 4, none⟩ (.slice z.A1 n z.d1)).setCell ⟨w.heap.size + 1, 5, none⟩ (.slice none 0 0)).setCell ⟨w.heap.size + 1, 6, none⟩ (.slice none 0 0)).setCell ⟨w.heap.size + 1, 7, none⟩ (.slice none 0 0)).setCell ⟨w.heap.size + 1, 8, none⟩ (.slice z.A2 n z.d2)).setCell ⟨w.heap.size + 1, 9, none⟩ (.slice z.A3 n z.d3)) (fun k => w.heap.size ≤ k) z n s ∧
    Below w.heap.size w ((((((((((W.setCell ⟨w.heap.size + 1, 0, none⟩ (.int .i64 0)).setCell ⟨w.heap.size + 1, 1, none⟩ (.slice none 0 0)).setCell ⟨w.heap.size + 1, 2, none⟩ (.slice none 0 0)).setCell ⟨w.heap.size + 1, 3, none⟩ (.slice none 0 0)).setCell ⟨w.heap.size + 1, 4, none⟩ (.slice z.A1 n z.d1)).setCell ⟨w.heap.size + 1, 5, none⟩ (.slice none 0 0)).setCell ⟨w.heap.size + 1, 6, none⟩ (.slice none 0 0)).setCell ⟨w.heap.size + 1, 7, none⟩ (.slice none 0 0)).setCell ⟨w.heap.size + 1, 8, none⟩ (.slice z.A2 n z.d2)).setCell ⟨w.heap.size + 1, 9, none⟩ (.slice z.A3 n z.d3)) := doc_fin2 h.r h.l (h.d.doc.mono (fun k hk _ => by have := h.lt; omega))
end
set_option maxRecDepth 100000 in
set_option maxHeartbeats 8000000 in
theorem own_any (w : World) (E : Nat → Prop) (z : ChZ) (n : Nat) (s : Ck) (h : DocC w E z n s) (hn : n ≤ 100000) (h1 : ∀ i, (gl s.bf i).length ≤ 100000) (h2 : ∀ i, (gl s.sq i).length ≤ 100000) (h3 : ∀ i, (gl s.rq i).length ≤ 100000) :
    Calls Try.prog 44 #[.agg (mkD z n)] w fun e w' => ∃ (z' : ChZ) (B : Nat), e = .returned (.agg (mkD z' n)) ∧ w.heap.size + 1 < B ∧ B ≤ w'.heap.size ∧ DO w' B z' n s ∧ Below w.heap.size w w' := by
  have c0 := fun (W : World) (hb : Below w.heap.size w W) => lists_any W E z.A1 z.d1 s.bf (h.bf.below hb (Nat.le_refl _)) n h.l1 (by omega) (fun i => by have := h1 i; omega)
  have c1 := fun (W : World) (hb : Below w.heap.size w W) => lists_any W E z.A2 z.d2 s.sq (h.sq.below hb (Nat.le_refl _)) n h.l2 (by omega) (fun i => by have := h2 i; omega)
  have c2 := fun (W : World) (hb : Below w.heap.size w W) => lists_any W E z.A3 z.d3 s.rq (h.rq.below hb (Nat.le_refl _)) n h.l3 (by omega) (fun i => by have := h3 i; omega)
  have HL := Lib.hid (⟨h.l1, h.l2, h.l3⟩ : _ ∧ _ ∧ _)
  have C0 := Lib.hid c0; have C1 := Lib.hid c1; have C2 := Lib.hid c2
  clear h hn h1 h2 h3 c0 c1 c2
  go_enter Try.func44, Try.ntmps44
  obtain ⟨W0, hW0⟩ : ∃ W, W = (w.alloc (.cells (mkD z n) 28)).alloc (.cells zeroC 28) := ⟨_, rfl⟩
  have k0 : Blk W0 w.heap.size 28 (mkD z n) := by rw [hW0]; exact (Blk.new w _ _).alloc _
  have r0 : Blk W0 (w.heap.size + 1) 28 zeroC := by rw [hW0]; simpa using Blk.new (w.alloc (.cells (mkD z n) 28)) 28 zeroC
  have l0 : Below w.heap.size w W0 := by rw [hW0]; exact ((Below.refl _ w).alloc (Nat.le_refl _) _).alloc (by simp) _
  have z0 : W0.heap.size = w.heap.size + 1 + 1 := by rw [hW0]; simp
  obtain ⟨x0, x1, x2, x3, x4, x5, x6, x7, x8, x9⟩ := blk10 k0
  have f4 := k0.frozen 4
  have HW0 := Lib.hid hW0; have K0 := Lib.hid k0; have R0 := Lib.hid r0; have L0 := Lib.hid l0; have Z0 := Lib.hid z0
  clear hW0 k0 r0 l0 z0
  go_upto_region 1 with fail
  rw [← HW0.out]
  clear HW0
  go_wp2_with fail
  refine (C0.out W0 L0.out).mono ?_
  rintro e w1 ⟨v, rfl, hv, hb⟩
  obtain ⟨A0, d0, e0⟩ := hv.form
  rw [HL.out.1] at e0
  subst e0
  have hk := K0.out.below hb K0.out.lt
  have hr := R0.out.below hb R0.out.lt
  have hl := L0.out.trans (hb.mono L0.out.size)
  have hzb := hb.size
  have hz0 := Z0.out
  obtain ⟨y0, y1, y2, y3, y4, y5, y6, y7, y8, y9⟩ := blk10 hk
  have g4 := hk.frozen 4
  obtain ⟨W1, hW1⟩ : ∃ W, W = w1.setCell ⟨w.heap.size, 4, none⟩ (.slice A0 n d0) := ⟨_, rfl⟩
  have hf : Fr (fun k => k = w.heap.size) w1 W1 := by rw [hW1]; exact fr_set _ _ _ _
  have kn : Blk W1 w.heap.size 28 #[.int .i64 0, .slice none 0 0, .slice none 0 0, .slice none 0 0, .slice A0 n d0, .slice none 0 0, .slice none 0 0, .slice none 0 0, .slice z.A2 n z.d2, .slice z.A3 n z.d3] := by rw [hW1]; simpa using hk.set_ 4 (.slice A0 n d0)
  have rn := hf.blk hr (by omega)
  have ln := hl.trans (hf.below hl.size (fun i hi => by omega))
  have zs := hf.size
  have zz0 : w.heap.size + 1 < W0.heap.size ∧ W0.heap.size ≤ w1.heap.size ∧ w1.heap.size ≤ W1.heap.size := ⟨by omega, hzb, zs⟩
  have o0n : OwnSS W1 W0.heap.size w1.heap.size (.slice A0 n d0) s.bf := hv.fr hf (fun k h1 h2 e => by omega)
  have O0 := Lib.hid o0n
  have ZZ0 := Lib.hid zz0
  have K1 := Lib.hid kn; have R1 := Lib.hid rn; have L1 := Lib.hid ln; have HW1 := Lib.hid hW1
  clear hv hb hk hr hl hzb hz0 hf kn rn ln zs zz0 x0 x1 x2 x3 x4 x5 x6 x7 x8 x9 f4 hW1 K0 R0 L0 o0n
  go_upto_region 2 with fail
  rw [← HW1.out]
  clear HW1 y0 y1 y2 y3 y4 y5 y6 y7 y8 y9 g4
  obtain ⟨x0, x1, x2, x3, x4, x5, x6, x7, x8, x9⟩ := blk10 K1.out
  have f8 := K1.out.frozen 8
  go_wp2_with fail
  refine (C1.out W1 L1.out).mono ?_
  rintro e w2 ⟨v, rfl, hv, hb⟩
  obtain ⟨A1, d1, e1⟩ := hv.form
  rw [HL.out.2.1] at e1
  subst e1
  have hk := K1.out.below hb K1.out.lt
  have hr := R1.out.below hb R1.out.lt
  have hl := L1.out.trans (hb.mono L1.out.size)
  have hzb := hb.size
  have hz0 := Z0.out
  obtain ⟨y0, y1, y2, y3, y4, y5, y6, y7, y8, y9⟩ := blk10 hk
  have g8 := hk.frozen 8
  obtain ⟨W2, hW2⟩ : ∃ W, W = w2.setCell ⟨w.heap.size, 8, none⟩ (.slice A1 n d1) := ⟨_, rfl⟩
  have hf : Fr (fun k => k = w.heap.size) w2 W2 := by rw [hW2]; exact fr_set _ _ _ _
  have kn : Blk W2 w.heap.size 28 #[.int .i64 0, .slice none 0 0, .slice none 0 0, .slice none 0 0, .slice A0 n d0, .slice none 0 0, .slice none 0 0, .slice none 0 0, .slice A1 n d1, .slice z.A3 n z.d3] := by rw [hW2]; simpa using hk.set_ 8 (.slice A1 n d1)
  have rn := hf.blk hr (by omega)
  have ln := hl.trans (hf.below hl.size (fun i hi => by omega))
  have zs := hf.size
  have zz1 : w.heap.size + 1 < W1.heap.size ∧ W1.heap.size ≤ w2.heap.size ∧ w2.heap.size ≤ W2.heap.size := ⟨by have := ZZ0.out; omega, hzb, zs⟩
  have o0n : OwnSS W2 W0.heap.size w1.heap.size (.slice A0 n d0) s.bf := (O0.out.fr (Fr.of_below hb) (fun k h1 h2 e => by have := ZZ0.out; omega)).fr hf (fun k h1 h2 e => by have := ZZ0.out; omega)
  have o1n : OwnSS W2 W1.heap.size w2.heap.size (.slice A1 n d1) s.sq := hv.fr hf (fun k h1 h2 e => by omega)
  clear O0
  have O0 := Lib.hid o0n
  have O1 := Lib.hid o1n
  have ZZ1 := Lib.hid zz1
  have K2 := Lib.hid kn; have R2 := Lib.hid rn; have L2 := Lib.hid ln; have HW2 := Lib.hid hW2
  clear hv hb hk hr hl hzb hz0 hf kn rn ln zs zz1 x0 x1 x2 x3 x4 x5 x6 x7 x8 x9 f8 hW2 K1 R1 L1 o0n o1n
  go_upto_region 3 with fail
  rw [← HW2.out]
  clear HW2 y0 y1 y2 y3 y4 y5 y6 y7 y8 y9 g8
  obtain ⟨x0, x1, x2, x3, x4, x5, x6, x7, x8, x9⟩ := blk10 K2.out
  have f9 := K2.out.frozen 9
  go_wp2_with fail
  refine (C2.out W2 L2.out).mono ?_
  rintro e w3 ⟨v, rfl, hv, hb⟩
  obtain ⟨A2, d2, e2⟩ := hv.form
  rw [HL.out.2.2] at e2
  subst e2
  have hk := K2.out.below hb K2.out.lt
  have hr := R2.out.below hb R2.out.lt
  have hl := L2.out.trans (hb.mono L2.out.size)
  have hzb := hb.size
  have hz0 := Z0.out
  obtain ⟨y0, y1, y2, y3, y4, y5, y6, y7, y8, y9⟩ := blk10 hk
  have g9 := hk.frozen 9
  obtain ⟨W3, hW3⟩ : ∃ W, W = w3.setCell ⟨w.heap.size, 9, none⟩ (.slice A2 n d2) := ⟨_, rfl⟩
  have hf : Fr (fun k => k = w.heap.size) w3 W3 := by rw [hW3]; exact fr_set _ _ _ _
  have kn : Blk W3 w.heap.size 28 #[.int .i64 0, .slice none 0 0, .slice none 0 0, .slice none 0 0, .slice A0 n d0, .slice none 0 0, .slice none 0 0, .slice none 0 0, .slice A1 n d1, .slice A2 n d2] := by rw [hW3]; simpa using hk.set_ 9 (.slice A2 n d2)
  have rn := hf.blk hr (by omega)
  have ln := hl.trans (hf.below hl.size (fun i hi => by omega))
  have zs := hf.size
  have zz2 : w.heap.size + 1 < W2.heap.size ∧ W2.heap.size ≤ w3.heap.size ∧ w3.heap.size ≤ W3.heap.size := ⟨by have := ZZ1.out; omega, hzb, zs⟩
  have o0n : OwnSS W3 W0.heap.size w1.heap.size (.slice A0 n d0) s.bf := (O0.out.fr (Fr.of_below hb) (fun k h1 h2 e => by have := ZZ0.out; have := ZZ1.out; omega)).fr hf (fun k h1 h2 e => by have := ZZ0.out; omega)
  have o1n : OwnSS W3 W1.heap.size w2.heap.size (.slice A1 n d1) s.sq := (O1.out.fr (Fr.of_below hb) (fun k h1 h2 e => by have := ZZ1.out; omega)).fr hf (fun k h1 h2 e => by have := ZZ1.out; omega)
  have o2n : OwnSS W3 W2.heap.size w3.heap.size (.slice A2 n d2) s.rq := hv.fr hf (fun k h1 h2 e => by omega)
  clear O0 O1
  have O0 := Lib.hid o0n
  have O1 := Lib.hid o1n
  have O2 := Lib.hid o2n
  have ZZ2 := Lib.hid zz2
  have K3 := Lib.hid kn; have R3 := Lib.hid rn; have L3 := Lib.hid ln; have HW3 := Lib.hid hW3
  clear hv hb hk hr hl hzb hz0 hf kn rn ln zs zz2 x0 x1 x2 x3 x4 x5 x6 x7 x8 x9 f9 hW3 K2 R2 L2 o0n o1n o2n
  go_upto_region 4 with fail
  rw [← HW3.out]
  clear HW3 y0 y1 y2 y3 y4 y5 y6 y7 y8 y9 g9
  obtain ⟨x0, x1, x2, x3, x4, x5, x6, x7, x8, x9⟩ := blk10 K3.out
  obtain ⟨s0, s1, s2, s3, s4, s5, s6, s7, s8, s9⟩ := blk10 R3.out
  have t0 := R3.out.frozen 0
  have t1 := R3.out.frozen 1
  have t2 := R3.out.frozen 2
  have t3 := R3.out.frozen 3
  have t4 := R3.out.frozen 4
  have t5 := R3.out.frozen 5
  have t6 := R3.out.frozen 6
  have t7 := R3.out.frozen 7
  have t8 := R3.out.frozen 8
  have t9 := R3.out.frozen 9
  have hB := R3.out.set10 (.int .i64 0) (.slice none 0 0) (.slice none 0 0) (.slice none 0 0) (.slice A0 n d0) (.slice none 0 0) (.slice none 0 0) (.slice none 0 0) (.slice A1 n d1) (.slice A2 n d2)
  have hF := fr_set10 W3 (w.heap.size + 1) (.int .i64 0) (.slice none 0 0) (.slice none 0 0) (.slice none 0 0) (.slice A0 n d0) (.slice none 0 0) (.slice none 0 0) (.slice none 0 0) (.slice A1 n d1) (.slice A2 n d2)
  have q0 := ZZ0.out; have q1 := ZZ1.out; have q2 := ZZ2.out
  have hd0 : DO W3 W0.heap.size ⟨A0, d0, A1, d1, A2, d2⟩ n s := by
    refine ⟨HL.out.1, HL.out.2.1, HL.out.2.2, DT.of3 (rw3 W0.heap.size W1.heap.size W2.heap.size) (rw3 w1.heap.size w2.heap.size w3.heap.size) (fun q hq => ?_) (fun q hq => ?_) (fun q q' h1 h2 => ?_)⟩
    · match q, hq with
      | 0, _ => exact O0.out
      | 1, _ => exact O1.out
      | 2, _ => exact O2.out
    · match q, hq with
      | 0, _ => exact Nat.le_refl _
      | 1, _ => show W0.heap.size ≤ W1.heap.size; omega
      | 2, _ => show W0.heap.size ≤ W2.heap.size; omega
    · have : (q = 0 ∧ q' = 1) ∨ (q = 0 ∧ q' = 2) ∨ (q = 1 ∧ q' = 2) := by omega
      rcases this with ⟨rfl, rfl⟩ | ⟨rfl, rfl⟩ | ⟨rfl, rfl⟩
      · show w1.heap.size ≤ W1.heap.size; omega
      · show w1.heap.size ≤ W2.heap.size; omega
      · show w2.heap.size ≤ W2.heap.size; omega
  have hd := hd0.fr hF (fun i h1 _ e => by omega)
  have hL := L3.out.trans (hF.below L3.out.size (fun i hi => by omega))
  have hz9 := hF.size
  have HB := Lib.hid hB; have HD := Lib.hid hd; have HLL := Lib.hid hL
  have hz5 : w.heap.size + 1 < W0.heap.size ∧ W0.heap.size ≤ ((((((((((W3.setCell ⟨w.heap.size + 1, 0, none⟩ (.int .i64 0)).setCell ⟨w.heap.size + 1, 1, none⟩ (.slice none 0 0)).setCell ⟨w.heap.size + 1, 2, none⟩ (.slice none 0 0)).setCell ⟨w.heap.size + 1, 3, none⟩ (.slice none 0 0)).setCell ⟨w.heap.size + 1, 4, none⟩ (.slice A0 n d0)).setCell ⟨w.heap.size + 1, 5, none⟩ (.slice none 0 0)).setCell ⟨w.heap.size + 1, 6, none⟩ (.slice none 0 0)).setCell ⟨w.heap.size + 1, 7, none⟩ (.slice none 0 0)).setCell ⟨w.heap.size + 1, 8, none⟩ (.slice A1 n d1)).setCell ⟨w.heap.size + 1, 9, none⟩ (.slice A2 n d2)).heap.size := ⟨q0.1, by omega⟩
  have HZ5 := Lib.hid hz5
  clear hB hF hd0 hd hL hz5 hz9 q0 q1 q2 O0 O1 O2 ZZ0 ZZ1 ZZ2 K3 R3 L3
  go_wp2_with fail
  refine bodyPost_ret (v := .agg #[.int .i64 0, .slice none 0 0, .slice none 0 0, .slice none 0 0, .slice A0 n d0, .slice none 0 0, .slice none 0 0, .slice none 0 0, .slice A1 n d1, .slice A2 n d2]) (results_cell_row rfl _ _ (w.heap.size + 1) 28 _ (0, 0) _ rfl HB.out Try.underlying28 rfl (by kernel_rfl)) rfl ?_
  exact ⟨⟨A0, d0, A1, d1, A2, d2⟩, _, rfl, HZ5.out.1, HZ5.out.2, HD.out, HLL.out⟩
end Go.Proofs.Ytbgigkamlnchcaa
