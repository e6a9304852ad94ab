
/-
  A program of which one number was turned: its rows, wherever they lie now.
-/
import Derived.Test.YtmjbfobjndiecaaCrD
import Derived.Test.YtmjbfobjndiecaaCsN
set_option linter.unusedVariables false
set_option linter.unusedSimpArgs false
namespace Go.Proofs.Ytmjbfobjndiecaa
open Go.RowKit Plain

/-- A program's rows, each in memory of one's own, however they lie to one another. -/
structure WQ (w : World) (B : Nat) (vf vc vs vh vx : Value) (q : PV) : Prop where
  funcs : RwF w B vf q.funcs
  conds : RwI w B vc q.conds
  semas : RwI w B vs q.semas
  chans : RwI w B vh q.chans
  choices : RwL w B vx q.choices
theorem own_one (w : World) (n : Int) (base : Nat) (h : base ≤ w.heap.size) : (w.alloc (.cells #[.int .i64 n] 3)).ownsRow base 3 1 (.slice (some ⟨w.heap.size, 0, none⟩) 1 1) 1 [.int .i64 n] :=
  ⟨rfl, .inr ⟨w.heap.size, 1, #[.int .i64 n], rfl, h, heap_alloc_new w _, Nat.le_refl _, by unfold maxLen; omega, rfl, rfl⟩⟩
section
variable {w w' : World} {base : Nat} {vf vc vs vh vx : Value} {cs ss hs : List Int} {fs : List TF} {ls : List TL}
theorem WQ.fr1 {B b : Nat} {ca : Array Value} {q : PV} (h : WQ w B vf vc vs vh vx q) (hb : Blk w b 26 ca) (hf : Fr (fun i => i = b) w w') : WQ w' B vf vc vs vh vx q :=
  ⟨h.1.fr1 hb (by decide) (by decide) hf, h.2.fr1 hb (by decide) hf, h.3.fr1 hb (by decide) hf, h.4.fr1 hb (by decide) hf, h.5.fr1 hb (by decide) (by decide) hf⟩
theorem OP.wq (g : OP w base vf vc vs vh vx cs ss hs fs ls) (mu th : Int) : WQ w base vf vc vs vh vx ⟨fs.map TF.f, mu, cs, ss, hs, ls.map TL.l, th⟩ :=
  ⟨⟨fs, rfl, by simpa using g.frow, fun t ht => g.code.1 t.row (List.mem_map_of_mem ht)⟩, g.ints.1 (irow vc cs) (by simp), g.ints.1 (irow vs ss) (by simp), g.ints.1 (irow vh hs) (by simp),
    ⟨ls, rfl, by simpa using g.lrow, fun t ht => g.ints.1 t.row (by simp only [List.mem_cons]; exact .inr (.inr (.inr (List.mem_map_of_mem ht))))⟩⟩
/-- One row of numbers has turned: the others are as they were. -/
theorem OP.keep_int (g : OP w base vf vc vs vh vx cs ss hs fs ls) {j : Nat} {r : Value × Nat × List Value} (hr : (irow vc cs :: irow vs ss :: irow vh hs :: ls.map TL.row)[j]? = some r) (hf : Fr (fun i => r.1.ownBlock = some i) w w') :
    (∀ (i : Nat) r', (irow vc cs :: irow vs ss :: irow vh hs :: ls.map TL.row)[i]? = some r' → i ≠ j → w'.ownsRow base 3 1 r'.1 r'.2.1 r'.2.2) ∧ w'.ownsRow base 23 1 vx ls.length (LS ls) ∧
      w'.ownsRow base 45 2 vf fs.length (FS fs) ∧ ∀ t ∈ fs, w'.ownsRow base 47 2 t.val t.f.code.length (CS t.f.code) := by
  have hm := g.ints.1 r (List.mem_of_getElem? hr)
  refine ⟨fun i r' hi hne => hf.own (g.ints.1 r' (List.mem_of_getElem? hi)) (fun k hk hk' => g.ints.ne hi hr hne k hk hk'), hf.own g.lrow (fun k hk hk' => own_ne g.lrow hm (by decide) k hk hk'), hf.own g.frow (fun k hk hk' => own_ne g.frow hm (by decide) k hk hk'), fun t ht => ?_⟩
  have hc := g.code.1 t.row (List.mem_map_of_mem ht)
  exact hf.own hc (fun k hk hk' => own_ne hc hm (by decide) k hk hk')
theorem ls_at {i : Nat} {t : TL} (h : ls[i]? = some t) : (irow vc cs :: irow vs ss :: irow vh hs :: ls.map TL.row)[i + 3]? = some t.row := by simp [h]
theorem OP.wq_c (g : OP w base vf vc vs vh vx cs ss hs fs ls) (mu th n : Int) {v' : Value} (hf : Fr (fun i => vc.ownBlock = some i) w w') (ho : w'.ownsRow base 3 1 v' (cs.length + 1) (IS cs ++ [.int .i64 n])) : WQ w' base vf v' vs vh vx ⟨fs.map TF.f, mu, cs ++ [n], ss, hs, ls.map TL.l, th⟩ := by
  obtain ⟨h1, h2, h3, h4⟩ := g.keep_int (j := 0) (r := irow vc cs) rfl hf
  refine ⟨⟨fs, rfl, by simpa using h3, h4⟩, by simpa [RwI, IS] using ho, h1 1 (irow vs ss) rfl (by omega), h1 2 (irow vh hs) rfl (by omega), ⟨ls, rfl, by simpa using h2, fun t ht => ?_⟩⟩
  obtain ⟨i, hi⟩ := List.getElem?_of_mem ht
  exact h1 _ _ (ls_at hi) (by omega)
theorem OP.wq_s (g : OP w base vf vc vs vh vx cs ss hs fs ls) (mu th n : Int) {v' : Value} (hf : Fr (fun i => vs.ownBlock = some i) w w') (ho : w'.ownsRow base 3 1 v' (ss.length + 1) (IS ss ++ [.int .i64 n])) : WQ w' base vf vc v' vh vx ⟨fs.map TF.f, mu, cs, ss ++ [n], hs, ls.map TL.l, th⟩ := by
  obtain ⟨h1, h2, h3, h4⟩ := g.keep_int (j := 1) (r := irow vs ss) rfl hf
  refine ⟨⟨fs, rfl, by simpa using h3, h4⟩, h1 0 (irow vc cs) rfl (by omega), by simpa [RwI, IS] using ho, h1 2 (irow vh hs) rfl (by omega), ⟨ls, rfl, by simpa using h2, fun t ht => ?_⟩⟩
  obtain ⟨i, hi⟩ := List.getElem?_of_mem ht
  exact h1 _ _ (ls_at hi) (by omega)
theorem OP.wq_h (g : OP w base vf vc vs vh vx cs ss hs fs ls) (mu th n : Int) {v' : Value} (hf : Fr (fun i => vh.ownBlock = some i) w w') (ho : w'.ownsRow base 3 1 v' (hs.length + 1) (IS hs ++ [.int .i64 n])) : WQ w' base vf vc vs v' vx ⟨fs.map TF.f, mu, cs, ss, hs ++ [n], ls.map TL.l, th⟩ := by
  obtain ⟨h1, h2, h3, h4⟩ := g.keep_int (j := 2) (r := irow vh hs) rfl hf
  refine ⟨⟨fs, rfl, by simpa using h3, h4⟩, h1 0 (irow vc cs) rfl (by omega), h1 1 (irow vs ss) rfl (by omega), by simpa [RwI, IS] using ho, ⟨ls, rfl, by simpa using h2, fun t ht => ?_⟩⟩
  obtain ⟨i, hi⟩ := List.getElem?_of_mem ht
  exact h1 _ _ (ls_at hi) (by omega)
theorem OP.wq_x (g : OP w base vf vc vs vh vx cs ss hs fs ls) (mu th : Int) (t : TL) {v' : Value} (hf : Fr (fun i => vx.ownBlock = some i) w w') (ho : w'.ownsRow base 23 1 v' (ls.length + 1) (LS ls ++ [t.val])) (ht : w'.ownsRow base 3 1 t.val t.l.length (IS t.l)) :
    WQ w' base vf vc vs vh v' ⟨fs.map TF.f, mu, cs, ss, hs, ls.map TL.l ++ [t.l], th⟩ := by
  have hi : ∀ r ∈ (irow vc cs :: irow vs ss :: irow vh hs :: ls.map TL.row), w'.ownsRow base 3 1 r.1 r.2.1 r.2.2 := fun r hr => hf.own (g.ints.1 r hr) (fun k hk hk' => own_ne (g.ints.1 r hr) g.lrow (by decide) k hk hk')
  refine ⟨⟨fs, rfl, by simpa using hf.own g.frow (fun k hk hk' => own_ne g.frow g.lrow (by decide) k hk hk'), fun u hu => ?_⟩, hi (irow vc cs) (by simp), hi (irow vs ss) (by simp), hi (irow vh hs) (by simp), ⟨ls ++ [t], by simp, ?_, fun u hu => ?_⟩⟩
  · have hc := g.code.1 u.row (List.mem_map_of_mem hu)
    exact hf.own hc (fun k hk hk' => own_ne hc g.lrow (by decide) k hk hk')
  · simpa [LS, TL.val] using ho
  · rcases List.mem_append.1 hu with hu | hu
    · exact hi u.row (by simp only [List.mem_cons]; exact .inr (.inr (.inr (List.mem_map_of_mem hu))))
    · simp at hu; subst hu; exact ht
theorem OP.wq_code (g : OP w base vf vc vs vh vx cs ss hs fs ls) {f bf cap : Nat} {t t' : TF} (mu th : Int) (ht : fs[f]? = some t) (hv : vf = .slice (some ⟨bf, 0, none⟩) fs.length cap) (hloc : t'.f.locals = t.f.locals) (hk : Fr (fun i => t.val.ownBlock = some i) w w')
    (ho : w'.ownsRow base 47 2 t'.val t'.f.code.length (CS t'.f.code)) : WQ (w'.setCell ⟨bf, f * 2 + 1, none⟩ t'.val) base vf vc vs vh vx ⟨(fs.set f t').map TF.f, mu, cs, ss, hs, ls.map TL.l, th⟩ := by
  have hrow : (fs.map TF.row)[f]? = some t.row := by simp [ht]
  have hm := g.code.1 t.row (List.mem_of_getElem? hrow)
  have hown : vf.ownBlock = some bf := by simp [hv, Value.ownBlock]
  have f2 : Fr (fun j => vf.ownBlock = some j) w' (w'.setCell ⟨bf, f * 2 + 1, none⟩ t'.val) := (Fr.refl _ w').setCell (p := ⟨bf, f * 2 + 1, none⟩) (.inl hown) _
  have hF : w'.ownsRow base 45 2 vf fs.length (FS fs) := hk.own g.frow (fun k h h' => own_ne g.frow hm (by decide) k h h')
  have hF2 : (w'.setCell ⟨bf, f * 2 + 1, none⟩ t'.val).ownsRow base 45 2 vf fs.length ((FS fs).set (f * 2 + 1) t'.val) := by
    simp only [hv] at hF ⊢
    exact (hF.stored _ _).1
  have hFS : (FS fs).set (f * 2 + 1) t'.val = FS (fs.set f t') := by
    unfold FS
    rw [flat2_set2 _ f t.cells _ (by simp [ht]), List.map_set]
    simp [TF.cells, TF.val, hloc]
  have hi : ∀ r ∈ (irow vc cs :: irow vs ss :: irow vh hs :: ls.map TL.row), (w'.setCell ⟨bf, f * 2 + 1, none⟩ t'.val).ownsRow base 3 1 r.1 r.2.1 r.2.2 := fun r hr => by
    have h1 := hk.own (g.ints.1 r hr) (fun k h h' => own_ne (g.ints.1 r hr) hm (by decide) k h h')
    exact f2.own h1 (fun k h h' => own_ne h1 hF (by decide) k h h')
  refine ⟨⟨fs.set f t', rfl, by rw [← hFS]; simpa using hF2, fun u hu => ?_⟩, hi (irow vc cs) (by simp), hi (irow vs ss) (by simp), hi (irow vh hs) (by simp), ⟨ls, rfl, ?_, fun u hu => hi u.row (by simp only [List.mem_cons]; exact .inr (.inr (.inr (List.mem_map_of_mem hu))))⟩⟩
  · have hown2 : ∀ (u : TF), w'.ownsRow base 47 2 u.val u.f.code.length (CS u.f.code) → (w'.setCell ⟨bf, f * 2 + 1, none⟩ t'.val).ownsRow base 47 2 u.val u.f.code.length (CS u.f.code) := fun u h => f2.own h (fun k e e' => own_ne h hF (by decide) k e e')
    obtain ⟨i, hiu⟩ := List.getElem?_of_mem hu
    by_cases hif : f = i
    · subst hif
      rw [List.getElem?_set_self (List.getElem?_eq_some_iff.1 ht).1] at hiu
      injection hiu with hiu
      subst hiu
      exact hown2 _ ho
    · rw [List.getElem?_set_ne hif] at hiu
      have hr2 : (fs.map TF.row)[i]? = some u.row := by simp [hiu]
      have hcu := g.code.1 u.row (List.mem_of_getElem? hr2)
      exact hown2 u (hk.own hcu (fun k h h' => g.code.ne hr2 hrow (Ne.symm hif) k h h'))
  · have h1 := hk.own g.lrow (fun k h h' => own_ne g.lrow hm (by decide) k h h')
    simpa using f2.own h1 (fun k h h' => own_ne h1 hF (by decide) k h h')
end
/-- A row of instructions that was made. -/
theorem made_cells (n : Nat) : (madeCells #[.int .i64 0, .int .i64 0] (n * 2)).toList = CS (List.replicate n ⟨0, 0⟩) := by
  have h1 : madeCells #[.int .i64 0, .int .i64 0] (n * 2) = Array.replicate (n * 2) (.int .i64 0) := by
    unfold madeCells
    apply Array.ext
    · simp
    · intro i h1 h2
      simp only [Array.getElem_map, Array.getElem_range, Array.getElem_replicate]
      show #[(Value.int .i64 0), .int .i64 0][i % 2]! = _
      have : i % 2 = 0 ∨ i % 2 = 1 := by omega
      rcases this with e | e <;> rw [e] <;> rfl
  rw [h1]
  simp only [Array.toList_replicate, CS, List.map_replicate]
  clear h1
  induction n with
  | zero => rfl
  | succ n ih =>
    rw [List.replicate_succ, flat2_cons, show (n + 1) * 2 = n * 2 + 1 + 1 by omega, List.replicate_succ, List.replicate_succ, ih]
theorem run_make_instr (n : Nat) (hn : n ≤ 1000) (W : World) : (Instr.makeSlice 43 (.int .i64 (n : Int)) (.int .i64 (n : Int))).run Try.prog W = .ok (.slice (some ⟨W.heap.size, 0, none⟩) n n) (W.alloc (.cells (madeCells #[.int .i64 0, .int .i64 0] (n * 2)) 47)) := by
  obtain ⟨i0, hi0, hz0, hz1, hz2⟩ := info_parts info_instr
  have hr := run_make (P := Try.prog) W 43 47 i0 _ Try.underlying43 hi0 hz0 .i64 .i64 n n (by omega) (Int.le_refl _) (by rw [hz2]; omega) (by omega)
  simp only [Int.toNat_natCast, hz1] at hr
  exact hr
theorem own_made (w : World) (n base : Nat) (hn : n ≤ 1000) (h : base ≤ w.heap.size) : (w.alloc (.cells (madeCells #[.int .i64 0, .int .i64 0] (n * 2)) 47)).ownsRow base 47 2 (.slice (some ⟨w.heap.size, 0, none⟩) n n) n (CS (List.replicate n ⟨0, 0⟩)) := by
  refine ⟨by rw [CS_length]; simp, .inr ⟨w.heap.size, n, madeCells #[.int .i64 0, .int .i64 0] (n * 2), rfl, h, heap_alloc_new w _, Nat.le_refl _, by unfold maxLen; omega, by rw [size_madeCells], ?_⟩⟩
  rw [made_cells]
  exact List.take_of_length_le (by rw [CS_length]; simp)
/-- Where the program stands whose number is turned. -/
structure EO (W0 wr : World) (b base : Nat) (mu th : Int) (vf vc vs vh vx : Value) (cs ss hs : List Int) (fs : List TF) (ls : List TL) : Prop where
  ob : Blk wr b 26 #[vf, .int .i64 mu, vc, vs, vh, vx, .int .i64 th]
  op : OP wr base vf vc vs vh vx cs ss hs fs ls
  bel : Below base W0 wr
  lo : base ≤ b
/-- The program in its box behind the turn. -/
def EdgeC (W0 : World) (b base : Nat) (wx : World) : Prop :=
  ∃ (q : PV) (fA : Option Addr) (fc : Nat) (cA : Option Addr) (cc : Nat) (sA : Option Addr) (sc : Nat) (hA : Option Addr) (hc : Nat) (xA : Option Addr) (xc : Nat), Blk wx b 26 #[.slice fA q.funcs.length fc, .int .i64 q.mutexes, .slice cA q.conds.length cc, .slice sA q.semas.length sc, .slice hA q.chans.length hc, .slice xA q.choices.length xc, .int .i64 q.threads] ∧
    RP wx wx.heap.size ⟨fA, fc, cA, cc, sA, sc, hA, hc, xA, xc⟩ q ∧ Short3 q ∧ Below base W0 wx
theorem each_app {X : List (List Int)} {n : Int} (h : ∀ l ∈ X, l.length ≤ 8) : ∀ l ∈ X ++ [[n]], l.length ≤ 1000 := fun l hl => by
  rcases List.mem_append.1 hl with h' | h'
  · have := h l h'; omega
  · simp at h'; subst h'; simp
theorem edge_of {W0 wx : World} {b base B : Nat} {vf vc vs vh vx : Value} {q : PV} {mu th : Int} (hb : Blk wx b 26 #[vf, .int .i64 mu, vc, vs, vh, vx, .int .i64 th]) (hq : WQ wx B vf vc vs vh vx q) (hm : q.mutexes = mu) (ht : q.threads = th) (hs : Short3 q) (hbel : Below base W0 wx) : EdgeC W0 b base wx := by
  subst hm ht
  obtain ⟨A1, c1, rfl⟩ := RwF_slice hq.funcs
  obtain ⟨A2, c2, rfl⟩ := RwI_slice hq.conds
  obtain ⟨A3, c3, rfl⟩ := RwI_slice hq.semas
  obtain ⟨A4, c4, rfl⟩ := RwI_slice hq.chans
  obtain ⟨A5, c5, rfl⟩ := RwL_slice hq.choices
  exact ⟨q, A1, c1, A2, c2, A3, c3, A4, c4, A5, c5, hb, ⟨hq.funcs.rf rfl, hq.conds.ri rfl, hq.semas.ri rfl, hq.chans.ri rfl, hq.choices.rl rfl⟩, hs, hbel⟩
end Go.Proofs.Ytmjbfobjndiecaa
