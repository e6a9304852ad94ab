
/-
  The program's reading of a program: what is read of any bytes, or the error.
-/
import Derived.Test.YtmjbfobjndiecaaCrR
import Derived.Test.YtmjbfobjndiecaaMayN
import Derived.Test.YtmjbfobjndiecaaCsM
import Derived.Test.YtmjbfobjndiecaaLaw
set_option linter.unusedVariables false
set_option linter.unusedSimpArgs false
namespace Go.Proofs.Ytmjbfobjndiecaa
open Go.RowKit Plain

theorem own_fr1 {w w' : World} {base size n b : Nat} {T e : TypeId} {cs : Array Value} {v : Value} {xs : List Value} (ho : w.ownsRow base e size v n xs) (hb : Blk w b T cs) (hT : e ≠ T) (hf : Fr (fun i => i = b) w w') : w'.ownsRow base e size v n xs :=
  hf.own ho (fun i hi hs => own_blk_ne ho hb hT (hs ▸ hi))
section
variable {w w' : World} {B b : Nat} {T : TypeId} {cs : Array Value} {u : Value}
theorem RwI.fr1 {l : List Int} (h : RwI w B u l) (hb : Blk w b T cs) (hT : 3 ≠ T) (hf : Fr (fun i => i = b) w w') : RwI w' B u l := own_fr1 h hb hT hf
theorem RwL.fr1 {l : List (List Int)} (h : RwL w B u l) (hb : Blk w b T cs) (hT : 3 ≠ T) (hT' : 23 ≠ T) (hf : Fr (fun i => i = b) w w') : RwL w' B u l := by
  obtain ⟨ts, h1, h2, h3⟩ := h
  exact ⟨ts, h1, own_fr1 h2 hb hT' hf, fun t ht => own_fr1 (h3 t ht) hb hT hf⟩
theorem RwF.fr1 {l : List FV} (h : RwF w B u l) (hb : Blk w b T cs) (hT : 47 ≠ T) (hT' : 45 ≠ T) (hf : Fr (fun i => i = b) w w') : RwF w' B u l := by
  obtain ⟨ts, h1, h2, h3⟩ := h
  exact ⟨ts, h1, own_fr1 h2 hb hT' hf, fun t ht => own_fr1 (h3 t ht) hb hT hf⟩
theorem RwI.lower {B2 : Nat} {l : List Int} (h : RwI w B u l) (hB : B2 ≤ B) : RwI w B2 u l := own_mono h hB
theorem RwL.lower {B2 : Nat} {l : List (List Int)} (h : RwL w B u l) (hB : B2 ≤ B) : RwL w B2 u l := by
  obtain ⟨ts, h1, h2, h3⟩ := h
  exact ⟨ts, h1, own_mono h2 hB, fun t ht => own_mono (h3 t ht) hB⟩
theorem RwF.lower {B2 : Nat} {l : List FV} (h : RwF w B u l) (hB : B2 ≤ B) : RwF w B2 u l := by
  obtain ⟨ts, h1, h2, h3⟩ := h
  exact ⟨ts, h1, own_mono h2 hB, fun t ht => own_mono (h3 t ht) hB⟩
theorem own_bel {size n : Nat} {e : TypeId} {xs : List Value} (ho : w.ownsRow B e size u n xs) (hb : Below w.heap.size w w') : w'.ownsRow B e size u n xs := (Fr.of_below hb).own ho (fun i hi hs => by have := (ho.lt i hi).2; omega)
theorem RwI.below {l : List Int} (h : RwI w B u l) (hb : Below w.heap.size w w') : RwI w' B u l := own_bel h hb
theorem RwL.below {l : List (List Int)} (h : RwL w B u l) (hb : Below w.heap.size w w') : RwL w' B u l := by
  obtain ⟨ts, h1, h2, h3⟩ := h
  exact ⟨ts, h1, own_bel h2 hb, fun t ht => own_bel (h3 t ht) hb⟩
theorem RwF.below {l : List FV} (h : RwF w B u l) (hb : Below w.heap.size w w') : RwF w' B u l := by
  obtain ⟨ts, h1, h2, h3⟩ := h
  exact ⟨ts, h1, own_bel h2 hb, fun t ht => own_bel (h3 t ht) hb⟩
theorem below7 {a : World} {b : Nat} (h : Below B a w) (hB : B ≤ b) (u0 u1 u2 u3 u4 u5 u6 : Value) : Below B a (((((((w.setCell ⟨b, 0, none⟩ u0).setCell ⟨b, 1, none⟩ u1).setCell ⟨b, 2, none⟩ u2).setCell ⟨b, 3, none⟩ u3).setCell ⟨b, 4, none⟩ u4).setCell ⟨b, 5, none⟩ u5).setCell ⟨b, 6, none⟩ u6) :=
  ((((((h.setCell (p := ⟨b, 0, none⟩) hB u0).setCell (p := ⟨b, 1, none⟩) hB u1).setCell (p := ⟨b, 2, none⟩) hB u2).setCell (p := ⟨b, 3, none⟩) hB u3).setCell (p := ⟨b, 4, none⟩) hB u4).setCell (p := ⟨b, 5, none⟩) hB u5).setCell (p := ⟨b, 6, none⟩) hB u6
theorem fr7 (u0 u1 u2 u3 u4 u5 u6 : Value) : Fr (fun j => j = b) w (((((((w.setCell ⟨b, 0, none⟩ u0).setCell ⟨b, 1, none⟩ u1).setCell ⟨b, 2, none⟩ u2).setCell ⟨b, 3, none⟩ u3).setCell ⟨b, 4, none⟩ u4).setCell ⟨b, 5, none⟩ u5).setCell ⟨b, 6, none⟩ u6) :=
  (((((((Fr.refl (fun j => j = b) w).setCell (p := ⟨b, 0, none⟩) (.inl rfl) u0).setCell (p := ⟨b, 1, none⟩) (.inl rfl) u1).setCell (p := ⟨b, 2, none⟩) (.inl rfl) u2).setCell (p := ⟨b, 3, none⟩) (.inl rfl) u3).setCell (p := ⟨b, 4, none⟩) (.inl rfl) u4).setCell (p := ⟨b, 5, none⟩) (.inl rfl) u5).setCell (p := ⟨b, 6, none⟩) (.inl rfl) u6
theorem RwI.ri {A : Option Addr} {n c : Nat} {l : List Int} (h : RwI w B (.slice A n c) l) (hn : l.length = n) : RI w w.heap.size A n c l := by
  unfold RwI at h
  rw [hn] at h
  obtain ⟨A', c', he, hc, hr⟩ := own_slice h
  injection he with a1 a2 a3
  subst a1 a3
  exact ⟨hn, hc, hr⟩
theorem RwL.rl {A : Option Addr} {n c : Nat} {l : List (List Int)} (h : RwL w B (.slice A n c) l) (hn : l.length = n) : RL w w.heap.size A n c l := by
  obtain ⟨ts, h1, h2, h3⟩ := h
  rw [hn] at h2
  obtain ⟨A', c', he, hc, hr⟩ := own_slice h2
  injection he with a1 a2 a3
  subst a1 a3
  refine ⟨ts, h1, hn, hc, hr, fun t ht => ?_⟩
  obtain ⟨A', c', he, hc, hr⟩ := own_slice (h3 t ht)
  injection he with a1 a2 a3
  subst a1 a3
  exact ⟨rfl, hc, hr⟩
theorem RwF.rf {A : Option Addr} {n c : Nat} {l : List FV} (h : RwF w B (.slice A n c) l) (hn : l.length = n) : RF w w.heap.size A n c l := by
  obtain ⟨ts, h1, h2, h3⟩ := h
  rw [hn] at h2
  obtain ⟨A', c', he, hc, hr⟩ := own_slice h2
  injection he with a1 a2 a3
  subst a1 a3
  refine ⟨ts, h1, hn, hc, hr, fun t ht => ?_⟩
  obtain ⟨A', c', he, hc, hr⟩ := own_slice (h3 t ht)
  injection he with a1 a2 a3
  subst a1 a3
  exact ⟨rfl, hc, hr⟩
end
/-- Where the reading of a program stands: the result's box, the reader's, the program's. -/
structure RB (w W : World) (base g : Nat) (v : Value) (bs : List Nat) (rb tb pb : Nat) (cs : Array Value) (s : Sx) : Prop where
  rbk : Blk W rb 26 #[.slice none 0 0, .int .i64 0, .slice none 0 0, .slice none 0 0, .slice none 0 0, .slice none 0 0, .int .i64 0]
  tbk : Blk W tb 72 #[.pointer (some ⟨g, 0, none⟩)]
  pbk : Blk W pb 26 cs
  rd : Rd W base g v bs s.1 s.2
  bel : Below w.heap.size w W
  lo : w.heap.size ≤ pb ∧ w.heap.size ≤ g
  ne : rb ≠ pb
section
variable {w W W' : World} {base g rb tb pb : Nat} {v : Value} {bs : List Nat} {cs : Array Value} {s s' : Sx}
theorem RB.fr (h : RB w W base g v bs rb tb pb cs s) (st : Fr (fun i => i = g) W W') (hr : Rd W' base g v bs s'.1 s'.2) : RB w W' base g v bs rb tb pb cs s' :=
  ⟨st.blk h.rbk (fun e => Blk.ne_ h.rd.1 h.rbk (by decide) e.symm), st.blk h.tbk (fun e => Blk.ne_ h.rd.1 h.tbk (by decide) e.symm), st.blk h.pbk (fun e => Blk.ne_ h.rd.1 h.pbk (by decide) e.symm), hr,
    h.bel.trans (st.below h.bel.size (fun i hi => by have := h.lo; omega)), h.lo, h.ne⟩
theorem RB.step (h : RB w W base g v bs rb tb pb cs s) (st : RdStep base g v bs s' W W') : RB w W' base g v bs rb tb pb cs s' := h.fr st.2 st.1
theorem RB.set (h : RB w W base g v bs rb tb pb cs s) (i : Nat) (u : Value) : RB w (W.setCell ⟨pb, i, none⟩ u) base g v bs rb tb pb (cs.setIfInBounds i u) s := by
  have hf := (Fr.refl (fun j => j = pb) W).setCell (p := ⟨pb, i, none⟩) (.inl rfl) u
  exact ⟨hf.blk h.rbk h.ne, hf.blk h.tbk (Blk.ne_ h.tbk h.pbk (by decide)), h.pbk.set_ i u, h.rd.fr hf (Blk.ne_ h.rd.1 h.pbk (by decide)) (fun j hj hs => own_blk_ne h.rd.2.1 h.pbk (by decide) (hs ▸ hj)),
    h.bel.setCell (p := ⟨pb, i, none⟩) h.lo.1 u, h.lo, h.ne⟩
theorem fr_set (i : Nat) (u : Value) : Fr (fun j => j = pb) W (W.setCell ⟨pb, i, none⟩ u) := (Fr.refl (fun j => j = pb) W).setCell (p := ⟨pb, i, none⟩) (.inl rfl) u
end
theorem rp_no (w : World) (B : Nat) : RP w B ⟨none, 0, none, 0, none, 0, none, 0, none, 0⟩ noP :=
  ⟨⟨[], rfl, rfl, Nat.le_refl _, Reads.none_, by simp⟩, ⟨rfl, Nat.le_refl _, Reads.none_⟩, ⟨rfl, Nat.le_refl _, Reads.none_⟩, ⟨rfl, Nat.le_refl _, Reads.none_⟩, ⟨[], rfl, rfl, Nat.le_refl _, Reads.none_, by simp⟩⟩
/-- What is answered: a program, an error. -/
def ReadTold (bs : List Nat) (w : World) (e : Ending) (w' : World) : Prop :=
  ∃ hd : PH, e = .returned (.tuple #[.agg #[.slice hd.fA (readP bs).funcs.length hd.fc, .int .i64 (readP bs).mutexes, .slice hd.cA (readP bs).conds.length hd.cc, .slice hd.sA (readP bs).semas.length hd.sc, .slice hd.hA (readP bs).chans.length hd.hc, .slice hd.xA (readP bs).choices.length hd.xc, .int .i64 (readP bs).threads], .int .i64 (readE bs)]) ∧ RP w' w'.heap.size hd (readP bs) ∧ Below w.heap.size w w'
theorem few_lens {p : PV} (h : Few3 p) : Lens p := ⟨by have := h.funcs; omega, fun f hf => by have := h.code f hf; omega, by have := h.conds; omega, by have := h.semas; omega, by have := h.chans; omega, by have := h.choices; omega, fun l hl => by have := h.each l hl; omega⟩

set_option maxHeartbeats 8000000 in
set_option maxRecDepth 100000 in
theorem read_any (bs : List Nat) (n : Nat) (hl : bs.length = n) (hx : ∀ x ∈ bs, x < 256) (w : World) (BB : Nat) (A : Option Addr) (c : Nat) (hr : Reads w BB 1 A n (BS bs)) (hB : BB ≤ w.heap.size) (hn : n ≤ 140737488355328) :
    Calls Try.prog 14 #[.slice A n c] w (ReadTold bs w) := by
  subst hl
  obtain ⟨⟨lf, s3⟩, h3⟩ : ∃ q, q = pf bs := ⟨_, rfl⟩
  obtain ⟨⟨m, s4⟩, h4⟩ : ∃ q, q = pm bs := ⟨_, rfl⟩
  obtain ⟨⟨lc, s5⟩, h5⟩ : ∃ q, q = pc bs := ⟨_, rfl⟩
  obtain ⟨⟨lm, s6⟩, h6⟩ : ∃ q, q = ps bs := ⟨_, rfl⟩
  obtain ⟨⟨lh, s7⟩, h7⟩ : ∃ q, q = ph bs := ⟨_, rfl⟩
  obtain ⟨⟨lx, s8⟩, h8⟩ : ∃ q, q = px bs := ⟨_, rfl⟩
  obtain ⟨⟨th, s9⟩, h9⟩ : ∃ q, q = pt bs := ⟨_, rfl⟩
  have hpp : progP bs = ⟨lf, m, lc, lm, lh, lx, th⟩ := by unfold progP; rw [← h3, ← h4, ← h5, ← h6, ← h7, ← h8, ← h9]
  have hre : readE bs = if endE bs s9 ≠ 0 then endE bs s9 else if mayB ⟨lf, m, lc, lm, lh, lx, th⟩ then 0 else 1 := by
    unfold readE endE
    rw [hpp, ← h9]
    by_cases h1 : s9.2 = 0
    · by_cases h2 : s9.1 < bs.length <;> simp [h1, h2]
    · simp [h1]
  have hfew := prog_few bs
  rw [hpp] at hfew
  have C3 : ∀ (base g tb : Nat) (v : Value) (W : World), Rd W base g v bs 0 0 → Blk W tb 72 #[.pointer (some ⟨g, 0, none⟩)] → Calls Try.prog 43 #[.pointer (some ⟨g, 0, none⟩), .int .i64 ((16 : Nat) : Int), .func (.func 44) #[] #[.pointer (some ⟨tb, 0, none⟩)]] W fun e w' => ∃ A c, e = .returned (.slice A lf.length c) ∧ RwF w' W.heap.size (.slice A lf.length c) lf ∧ RdStep base g v bs s3 W w' := fun base g tb v W hr hb => by
    have h := readListF base g 16 tb v bs (0, 0) W hr hx hn (by omega) (fun W' s' hf hr' => readFuncF base g tb v bs s' W' hr' (hf.blk hb (Blk.ne_ hb hr.1 (by decide))) hx hn)
    rw [show listP (funcP bs) 16 bs (0, 0) = (lf, s3) from h3.symm] at h
    exact h
  have C4 : ∀ (base g tb : Nat) (v : Value) (W : World), Rd W base g v bs s3.1 s3.2 → Blk W tb 72 #[.pointer (some ⟨g, 0, none⟩)] → Calls Try.prog 46 #[.pointer (some ⟨g, 0, none⟩)] W fun e w' => e = .returned (.int .i64 m) ∧ RdStep base g v bs s4 W w' := fun base g tb v W hr hb => by
    have h := (told_short bs bs.length s3.1 none s3.2 base g v 0 hx (Nat.le_refl _) hn hr.2.2).2 W hr
    rw [show stP sh bs (s3.1, s3.2) = (m, s4) from (by rw [h4]; unfold pm; rw [← h3])] at h
    exact h
  have C5 : ∀ (base g tb : Nat) (v : Value) (W : World), Rd W base g v bs s4.1 s4.2 → Blk W tb 72 #[.pointer (some ⟨g, 0, none⟩)] → Calls Try.prog 47 #[.pointer (some ⟨g, 0, none⟩), .int .i64 ((8 : Nat) : Int), .func (.func 46) #[.pointer (some ⟨g, 0, none⟩)] #[]] W fun e w' => ∃ A c, e = .returned (.slice A lc.length c) ∧ RwI w' W.heap.size (.slice A lc.length c) lc ∧ RdStep base g v bs s5 W w' := fun base g tb v W hr hb => by
    have h := readListI base g 8 v bs s4 W hr hx hn (by omega) (fun W' s' hf hr' => ((told_short bs bs.length s'.1 none s'.2 base g v 0 hx (Nat.le_refl _) hn hr'.2.2).2 W' hr').mono fun en w' h => ⟨_, h.1, rfl, h.2⟩)
    rw [show listP (stP sh bs) 8 bs s4 = (lc, s5) from (by rw [h5]; unfold pc; rw [← h4]; rfl)] at h
    exact h
  have C6 : ∀ (base g tb : Nat) (v : Value) (W : World), Rd W base g v bs s5.1 s5.2 → Blk W tb 72 #[.pointer (some ⟨g, 0, none⟩)] → Calls Try.prog 47 #[.pointer (some ⟨g, 0, none⟩), .int .i64 ((8 : Nat) : Int), .func (.func 46) #[.pointer (some ⟨g, 0, none⟩)] #[]] W fun e w' => ∃ A c, e = .returned (.slice A lm.length c) ∧ RwI w' W.heap.size (.slice A lm.length c) lm ∧ RdStep base g v bs s6 W w' := fun base g tb v W hr hb => by
    have h := readListI base g 8 v bs s5 W hr hx hn (by omega) (fun W' s' hf hr' => ((told_short bs bs.length s'.1 none s'.2 base g v 0 hx (Nat.le_refl _) hn hr'.2.2).2 W' hr').mono fun en w' h => ⟨_, h.1, rfl, h.2⟩)
    rw [show listP (stP sh bs) 8 bs s5 = (lm, s6) from (by rw [h6]; unfold ps; rw [← h5]; rfl)] at h
    exact h
  have C7 : ∀ (base g tb : Nat) (v : Value) (W : World), Rd W base g v bs s6.1 s6.2 → Blk W tb 72 #[.pointer (some ⟨g, 0, none⟩)] → Calls Try.prog 47 #[.pointer (some ⟨g, 0, none⟩), .int .i64 ((8 : Nat) : Int), .func (.func 46) #[.pointer (some ⟨g, 0, none⟩)] #[]] W fun e w' => ∃ A c, e = .returned (.slice A lh.length c) ∧ RwI w' W.heap.size (.slice A lh.length c) lh ∧ RdStep base g v bs s7 W w' := fun base g tb v W hr hb => by
    have h := readListI base g 8 v bs s6 W hr hx hn (by omega) (fun W' s' hf hr' => ((told_short bs bs.length s'.1 none s'.2 base g v 0 hx (Nat.le_refl _) hn hr'.2.2).2 W' hr').mono fun en w' h => ⟨_, h.1, rfl, h.2⟩)
    rw [show listP (stP sh bs) 8 bs s6 = (lh, s7) from (by rw [h7]; unfold ph; rw [← h6]; rfl)] at h
    exact h
  have C8 : ∀ (base g tb : Nat) (v : Value) (W : World), Rd W base g v bs s7.1 s7.2 → Blk W tb 72 #[.pointer (some ⟨g, 0, none⟩)] → Calls Try.prog 48 #[.pointer (some ⟨g, 0, none⟩), .int .i64 ((8 : Nat) : Int), .func (.func 49) #[] #[.pointer (some ⟨tb, 0, none⟩)]] W fun e w' => ∃ A c, e = .returned (.slice A lx.length c) ∧ RwL w' W.heap.size (.slice A lx.length c) lx ∧ RdStep base g v bs s8 W w' := fun base g tb v W hr hb => by
    have h := readListL base g 8 tb v bs s7 W hr hx hn (by omega) (fun W' s' hf hr' => readIntsF base g tb v bs s' W' hr' (hf.blk hb (Blk.ne_ hb hr.1 (by decide))) hx hn)
    rw [show listP (intsP bs) 8 bs s7 = (lx, s8) from (by rw [h8]; unfold px; rw [← h7])] at h
    exact h
  have C9 : ∀ (base g tb : Nat) (v : Value) (W : World), Rd W base g v bs s8.1 s8.2 → Blk W tb 72 #[.pointer (some ⟨g, 0, none⟩)] → Calls Try.prog 46 #[.pointer (some ⟨g, 0, none⟩)] W fun e w' => e = .returned (.int .i64 th) ∧ RdStep base g v bs s9 W w' := fun base g tb v W hr hb => by
    have h := (told_short bs bs.length s8.1 none s8.2 base g v 0 hx (Nat.le_refl _) hn hr.2.2).2 W hr
    rw [show stP sh bs (s8.1, s8.2) = (th, s9) from (by rw [h9]; unfold pt; rw [← h8])] at h
    exact h
  have h1 := fun W h => newReader_any bs bs.length rfl W BB A c h hn
  have CE := fun base g v W h => rd_end_any base g v bs s9 W h hn
  have D3 := Lib.hid C3; have D4 := Lib.hid C4; have D5 := Lib.hid C5; have D6 := Lib.hid C6; have D7 := Lib.hid C7; have D8 := Lib.hid C8; have D9 := Lib.hid C9; have DN := Lib.hid h1; have DE := Lib.hid CE; have HR := Lib.hid hr; have HPP := Lib.hid hpp; have HRE := Lib.hid hre; have HFEW := Lib.hid hfew
  clear C3 C4 C5 C6 C7 C8 C9 h1 CE hr hpp hre hfew h3 h4 h5 h6 h7 h8 h9 hx
  go_enter Try.func14, Try.ntmps14
  go_wp2_with fail
  refine (DN.out _ (HR.out.alloc hB _)).mono ?_
  rintro e w1 ⟨v, g, rfl, hrd, hg, hb1⟩
  have hz1 := hb1.size
  simp only [World.size_alloc] at hz1 hg
  have hg1 := hrd.lt
  have rbb : Blk w1 w.heap.size 26 #[.slice none 0 0, .int .i64 0, .slice none 0 0, .slice none 0 0, .slice none 0 0, .slice none 0 0, .int .i64 0] := (Blk.new w 26 #[.slice none 0 0, .int .i64 0, .slice none 0 0, .slice none 0 0, .slice none 0 0, .slice none 0 0, .int .i64 0]).below hb1 (by simp)
  have hrb := rbb.lt
  have hR : RB w ((w1.alloc (.cells #[.pointer (some ⟨g, 0, none⟩)] 72)).alloc (.cells #[.slice none 0 0, .int .i64 0, .slice none 0 0, .slice none 0 0, .slice none 0 0, .slice none 0 0, .int .i64 0] 26)) (w.alloc (.cells #[.slice none 0 0, .int .i64 0, .slice none 0 0, .slice none 0 0, .slice none 0 0, .slice none 0 0, .int .i64 0] 26)).heap.size g v bs w.heap.size w1.heap.size (w1.heap.size + 1) #[.slice none 0 0, .int .i64 0, .slice none 0 0, .slice none 0 0, .slice none 0 0, .slice none 0 0, .int .i64 0] (0, 0) := by
    refine ⟨(rbb.alloc _).alloc _, (Blk.new w1 _ _).alloc _, ?_, (hrd.alloc _).alloc _, ?_, ⟨by omega, by omega⟩, by omega⟩
    · simpa using Blk.new (w1.alloc (.cells #[.pointer (some ⟨g, 0, none⟩)] 72)) 26 #[.slice none 0 0, .int .i64 0, .slice none 0 0, .slice none 0 0, .slice none 0 0, .slice none 0 0, .int .i64 0]
    · have h0 : Below w.heap.size w w1 := ((Below.refl w.heap.size w).alloc (Nat.le_refl _) _).trans (hb1.mono (by simp))
      exact (h0.alloc (by omega) _).alloc (by simp; omega) _
  obtain ⟨U2, hU2⟩ : ∃ X, X = (w1.alloc (.cells #[.pointer (some ⟨g, 0, none⟩)] 72)).alloc (.cells #[.slice none 0 0, .int .i64 0, .slice none 0 0, .slice none 0 0, .slice none 0 0, .slice none 0 0, .int .i64 0] 26) := ⟨_, rfl⟩
  rw [← hU2] at hR
  have HU2 := Lib.hid hU2.symm
  generalize hbs : (w.alloc (.cells #[.slice none 0 0, .int .i64 0, .slice none 0 0, .slice none 0 0, .slice none 0 0, .slice none 0 0, .int .i64 0] 26)).heap.size = base at hR
  have R2 := Lib.hid hR
  clear hU2 hrd hb1 rbb hbs HR hR
  go_upto_region 3 with fail
  rw [HU2.out]
  clear HU2 hz1
  generalize w1.heap.size + 1 = pb at *
  generalize w1.heap.size = tb at *
  have t3 : U2.cell? ⟨tb, 0, none⟩ = some (.pointer (some ⟨g, 0, none⟩)) := (R2.out.tbk.cell 0).trans rfl
  have tz3 := R2.out.pbk.lt
  go_wp2_with fail
  refine (D3.out base g tb v U2 R2.out.rd R2.out.tbk).mono ?_
  rintro e V3 ⟨A3, c3, rfl, hrw, hst⟩
  have hR := R2.out.step hst
  have y0 : V3.cell? ⟨pb, 0, none⟩ = some (.slice none 0 0) := (hR.pbk.cell 0).trans rfl
  have y1 := hR.pbk.frozen 0
  have y2 := hR.pbk.lt
  obtain ⟨U3, hU3⟩ : ∃ X, X = V3.setCell ⟨pb, 0, none⟩ (.slice A3 lf.length c3) := ⟨_, rfl⟩
  have hR2 : RB w U3 base g v bs w.heap.size tb pb #[.slice A3 lf.length c3, .int .i64 0, .slice none 0 0, .slice none 0 0, .slice none 0 0, .slice none 0 0, .int .i64 0] s3 := by rw [hU3]; exact hR.set 0 _
  have HU := Lib.hid hU3.symm
  have Q3 : Hid (RwF U3 w.heap.size (.slice A3 lf.length c3) lf) := by
    show RwF U3 w.heap.size (.slice A3 lf.length c3) lf
    rw [hU3]; exact (RwF.lower hrw R2.out.bel.size).fr1 hR.pbk (by decide) (by decide) (fr_set 0 _)
  clear hrw
  have R3 := Lib.hid hR2
  clear hst hR hR2 hU3 t3 tz3 R2
  go_upto_region 4 with fail
  rw [HU.out]
  clear y0 y1 y2 HU
  have t4 : U3.cell? ⟨tb, 0, none⟩ = some (.pointer (some ⟨g, 0, none⟩)) := (R3.out.tbk.cell 0).trans rfl
  have tz4 := R3.out.pbk.lt
  go_wp2_with fail
  refine (D4.out base g tb v U3 R3.out.rd R3.out.tbk).mono ?_
  rintro e V4 ⟨rfl, hst⟩
  have hR := R3.out.step hst
  have y0 : V4.cell? ⟨pb, 1, none⟩ = some (.int .i64 0) := (hR.pbk.cell 1).trans rfl
  have y1 := hR.pbk.frozen 1
  have y2 := hR.pbk.lt
  obtain ⟨U4, hU4⟩ : ∃ X, X = V4.setCell ⟨pb, 1, none⟩ (.int .i64 m) := ⟨_, rfl⟩
  have hR2 : RB w U4 base g v bs w.heap.size tb pb #[.slice A3 lf.length c3, .int .i64 m, .slice none 0 0, .slice none 0 0, .slice none 0 0, .slice none 0 0, .int .i64 0] s4 := by rw [hU4]; exact hR.set 1 _
  have HU := Lib.hid hU4.symm
  have gQ3 : Hid (RwF U4 w.heap.size (.slice A3 lf.length c3) lf) := by
    show RwF U4 w.heap.size (.slice A3 lf.length c3) lf
    rw [hU4]; exact (Q3.out.fr1 R3.out.rd.1 (by decide) (by decide) hst.2).fr1 hR.pbk (by decide) (by decide) (fr_set 1 _)
  clear Q3
  have Q3 := gQ3
  clear gQ3
  have R4 := Lib.hid hR2
  clear hst hR hR2 hU4 t4 tz4 R3
  go_upto_region 5 with fail
  rw [HU.out]
  clear y0 y1 y2 HU
  have t5 : U4.cell? ⟨tb, 0, none⟩ = some (.pointer (some ⟨g, 0, none⟩)) := (R4.out.tbk.cell 0).trans rfl
  have tz5 := R4.out.pbk.lt
  go_wp2_with fail
  refine (D5.out base g tb v U4 R4.out.rd R4.out.tbk).mono ?_
  rintro e V5 ⟨A5, c5, rfl, hrw, hst⟩
  have hR := R4.out.step hst
  have y0 : V5.cell? ⟨pb, 2, none⟩ = some (.slice none 0 0) := (hR.pbk.cell 2).trans rfl
  have y1 := hR.pbk.frozen 2
  have y2 := hR.pbk.lt
  obtain ⟨U5, hU5⟩ : ∃ X, X = V5.setCell ⟨pb, 2, none⟩ (.slice A5 lc.length c5) := ⟨_, rfl⟩
  have hR2 : RB w U5 base g v bs w.heap.size tb pb #[.slice A3 lf.length c3, .int .i64 m, .slice A5 lc.length c5, .slice none 0 0, .slice none 0 0, .slice none 0 0, .int .i64 0] s5 := by rw [hU5]; exact hR.set 2 _
  have HU := Lib.hid hU5.symm
  have gQ3 : Hid (RwF U5 w.heap.size (.slice A3 lf.length c3) lf) := by
    show RwF U5 w.heap.size (.slice A3 lf.length c3) lf
    rw [hU5]; exact (Q3.out.fr1 R4.out.rd.1 (by decide) (by decide) hst.2).fr1 hR.pbk (by decide) (by decide) (fr_set 2 _)
  clear Q3
  have Q3 := gQ3
  clear gQ3
  have Q5 : Hid (RwI U5 w.heap.size (.slice A5 lc.length c5) lc) := by
    show RwI U5 w.heap.size (.slice A5 lc.length c5) lc
    rw [hU5]; exact (RwI.lower hrw R4.out.bel.size).fr1 hR.pbk (by decide) (fr_set 2 _)
  clear hrw
  have R5 := Lib.hid hR2
  clear hst hR hR2 hU5 t5 tz5 R4
  go_upto_region 6 with fail
  rw [HU.out]
  clear y0 y1 y2 HU
  have t6 : U5.cell? ⟨tb, 0, none⟩ = some (.pointer (some ⟨g, 0, none⟩)) := (R5.out.tbk.cell 0).trans rfl
  have tz6 := R5.out.pbk.lt
  go_wp2_with fail
  refine (D6.out base g tb v U5 R5.out.rd R5.out.tbk).mono ?_
  rintro e V6 ⟨A6, c6, rfl, hrw, hst⟩
  have hR := R5.out.step hst
  have y0 : V6.cell? ⟨pb, 3, none⟩ = some (.slice none 0 0) := (hR.pbk.cell 3).trans rfl
  have y1 := hR.pbk.frozen 3
  have y2 := hR.pbk.lt
  obtain ⟨U6, hU6⟩ : ∃ X, X = V6.setCell ⟨pb, 3, none⟩ (.slice A6 lm.length c6) := ⟨_, rfl⟩
  have hR2 : RB w U6 base g v bs w.heap.size tb pb #[.slice A3 lf.length c3, .int .i64 m, .slice A5 lc.length c5, .slice A6 lm.length c6, .slice none 0 0, .slice none 0 0, .int .i64 0] s6 := by rw [hU6]; exact hR.set 3 _
  have HU := Lib.hid hU6.symm
  have gQ3 : Hid (RwF U6 w.heap.size (.slice A3 lf.length c3) lf) := by
    show RwF U6 w.heap.size (.slice A3 lf.length c3) lf
    rw [hU6]; exact (Q3.out.fr1 R5.out.rd.1 (by decide) (by decide) hst.2).fr1 hR.pbk (by decide) (by decide) (fr_set 3 _)
  clear Q3
  have Q3 := gQ3
  clear gQ3
  have gQ5 : Hid (RwI U6 w.heap.size (.slice A5 lc.length c5) lc) := by
    show RwI U6 w.heap.size (.slice A5 lc.length c5) lc
    rw [hU6]; exact (Q5.out.fr1 R5.out.rd.1 (by decide) hst.2).fr1 hR.pbk (by decide) (fr_set 3 _)
  clear Q5
  have Q5 := gQ5
  clear gQ5
  have Q6 : Hid (RwI U6 w.heap.size (.slice A6 lm.length c6) lm) := by
    show RwI U6 w.heap.size (.slice A6 lm.length c6) lm
    rw [hU6]; exact (RwI.lower hrw R5.out.bel.size).fr1 hR.pbk (by decide) (fr_set 3 _)
  clear hrw
  have R6 := Lib.hid hR2
  clear hst hR hR2 hU6 t6 tz6 R5
  go_upto_region 7 with fail
  rw [HU.out]
  clear y0 y1 y2 HU
  have t7 : U6.cell? ⟨tb, 0, none⟩ = some (.pointer (some ⟨g, 0, none⟩)) := (R6.out.tbk.cell 0).trans rfl
  have tz7 := R6.out.pbk.lt
  go_wp2_with fail
  refine (D7.out base g tb v U6 R6.out.rd R6.out.tbk).mono ?_
  rintro e V7 ⟨A7, c7, rfl, hrw, hst⟩
  have hR := R6.out.step hst
  have y0 : V7.cell? ⟨pb, 4, none⟩ = some (.slice none 0 0) := (hR.pbk.cell 4).trans rfl
  have y1 := hR.pbk.frozen 4
  have y2 := hR.pbk.lt
  obtain ⟨U7, hU7⟩ : ∃ X, X = V7.setCell ⟨pb, 4, none⟩ (.slice A7 lh.length c7) := ⟨_, rfl⟩
  have hR2 : RB w U7 base g v bs w.heap.size tb pb #[.slice A3 lf.length c3, .int .i64 m, .slice A5 lc.length c5, .slice A6 lm.length c6, .slice A7 lh.length c7, .slice none 0 0, .int .i64 0] s7 := by rw [hU7]; exact hR.set 4 _
  have HU := Lib.hid hU7.symm
  have gQ3 : Hid (RwF U7 w.heap.size (.slice A3 lf.length c3) lf) := by
    show RwF U7 w.heap.size (.slice A3 lf.length c3) lf
    rw [hU7]; exact (Q3.out.fr1 R6.out.rd.1 (by decide) (by decide) hst.2).fr1 hR.pbk (by decide) (by decide) (fr_set 4 _)
  clear Q3
  have Q3 := gQ3
  clear gQ3
  have gQ5 : Hid (RwI U7 w.heap.size (.slice A5 lc.length c5) lc) := by
    show RwI U7 w.heap.size (.slice A5 lc.length c5) lc
    rw [hU7]; exact (Q5.out.fr1 R6.out.rd.1 (by decide) hst.2).fr1 hR.pbk (by decide) (fr_set 4 _)
  clear Q5
  have Q5 := gQ5
  clear gQ5
  have gQ6 : Hid (RwI U7 w.heap.size (.slice A6 lm.length c6) lm) := by
    show RwI U7 w.heap.size (.slice A6 lm.length c6) lm
    rw [hU7]; exact (Q6.out.fr1 R6.out.rd.1 (by decide) hst.2).fr1 hR.pbk (by decide) (fr_set 4 _)
  clear Q6
  have Q6 := gQ6
  clear gQ6
  have Q7 : Hid (RwI U7 w.heap.size (.slice A7 lh.length c7) lh) := by
    show RwI U7 w.heap.size (.slice A7 lh.length c7) lh
    rw [hU7]; exact (RwI.lower hrw R6.out.bel.size).fr1 hR.pbk (by decide) (fr_set 4 _)
  clear hrw
  have R7 := Lib.hid hR2
  clear hst hR hR2 hU7 t7 tz7 R6
  go_upto_region 8 with fail
  rw [HU.out]
  clear y0 y1 y2 HU
  have t8 : U7.cell? ⟨tb, 0, none⟩ = some (.pointer (some ⟨g, 0, none⟩)) := (R7.out.tbk.cell 0).trans rfl
  have tz8 := R7.out.pbk.lt
  go_wp2_with fail
  refine (D8.out base g tb v U7 R7.out.rd R7.out.tbk).mono ?_
  rintro e V8 ⟨A8, c8, rfl, hrw, hst⟩
  have hR := R7.out.step hst
  have y0 : V8.cell? ⟨pb, 5, none⟩ = some (.slice none 0 0) := (hR.pbk.cell 5).trans rfl
  have y1 := hR.pbk.frozen 5
  have y2 := hR.pbk.lt
  obtain ⟨U8, hU8⟩ : ∃ X, X = V8.setCell ⟨pb, 5, none⟩ (.slice A8 lx.length c8) := ⟨_, rfl⟩
  have hR2 : RB w U8 base g v bs w.heap.size tb pb #[.slice A3 lf.length c3, .int .i64 m, .slice A5 lc.length c5, .slice A6 lm.length c6, .slice A7 lh.length c7, .slice A8 lx.length c8, .int .i64 0] s8 := by rw [hU8]; exact hR.set 5 _
  have HU := Lib.hid hU8.symm
  have gQ3 : Hid (RwF U8 w.heap.size (.slice A3 lf.length c3) lf) := by
    show RwF U8 w.heap.size (.slice A3 lf.length c3) lf
    rw [hU8]; exact (Q3.out.fr1 R7.out.rd.1 (by decide) (by decide) hst.2).fr1 hR.pbk (by decide) (by decide) (fr_set 5 _)
  clear Q3
  have Q3 := gQ3
  clear gQ3
  have gQ5 : Hid (RwI U8 w.heap.size (.slice A5 lc.length c5) lc) := by
    show RwI U8 w.heap.size (.slice A5 lc.length c5) lc
    rw [hU8]; exact (Q5.out.fr1 R7.out.rd.1 (by decide) hst.2).fr1 hR.pbk (by decide) (fr_set 5 _)
  clear Q5
  have Q5 := gQ5
  clear gQ5
  have gQ6 : Hid (RwI U8 w.heap.size (.slice A6 lm.length c6) lm) := by
    show RwI U8 w.heap.size (.slice A6 lm.length c6) lm
    rw [hU8]; exact (Q6.out.fr1 R7.out.rd.1 (by decide) hst.2).fr1 hR.pbk (by decide) (fr_set 5 _)
  clear Q6
  have Q6 := gQ6
  clear gQ6
  have gQ7 : Hid (RwI U8 w.heap.size (.slice A7 lh.length c7) lh) := by
    show RwI U8 w.heap.size (.slice A7 lh.length c7) lh
    rw [hU8]; exact (Q7.out.fr1 R7.out.rd.1 (by decide) hst.2).fr1 hR.pbk (by decide) (fr_set 5 _)
  clear Q7
  have Q7 := gQ7
  clear gQ7
  have Q8 : Hid (RwL U8 w.heap.size (.slice A8 lx.length c8) lx) := by
    show RwL U8 w.heap.size (.slice A8 lx.length c8) lx
    rw [hU8]; exact (RwL.lower hrw R7.out.bel.size).fr1 hR.pbk (by decide) (by decide) (fr_set 5 _)
  clear hrw
  have R8 := Lib.hid hR2
  clear hst hR hR2 hU8 t8 tz8 R7
  go_upto_region 9 with fail
  rw [HU.out]
  clear y0 y1 y2 HU
  have t9 : U8.cell? ⟨tb, 0, none⟩ = some (.pointer (some ⟨g, 0, none⟩)) := (R8.out.tbk.cell 0).trans rfl
  have tz9 := R8.out.pbk.lt
  go_wp2_with fail
  refine (D9.out base g tb v U8 R8.out.rd R8.out.tbk).mono ?_
  rintro e V9 ⟨rfl, hst⟩
  have hR := R8.out.step hst
  have y0 : V9.cell? ⟨pb, 6, none⟩ = some (.int .i64 0) := (hR.pbk.cell 6).trans rfl
  have y1 := hR.pbk.frozen 6
  have y2 := hR.pbk.lt
  obtain ⟨U9, hU9⟩ : ∃ X, X = V9.setCell ⟨pb, 6, none⟩ (.int .i64 th) := ⟨_, rfl⟩
  have hR2 : RB w U9 base g v bs w.heap.size tb pb #[.slice A3 lf.length c3, .int .i64 m, .slice A5 lc.length c5, .slice A6 lm.length c6, .slice A7 lh.length c7, .slice A8 lx.length c8, .int .i64 th] s9 := by rw [hU9]; exact hR.set 6 _
  have HU := Lib.hid hU9.symm
  have gQ3 : Hid (RwF U9 w.heap.size (.slice A3 lf.length c3) lf) := by
    show RwF U9 w.heap.size (.slice A3 lf.length c3) lf
    rw [hU9]; exact (Q3.out.fr1 R8.out.rd.1 (by decide) (by decide) hst.2).fr1 hR.pbk (by decide) (by decide) (fr_set 6 _)
  clear Q3
  have Q3 := gQ3
  clear gQ3
  have gQ5 : Hid (RwI U9 w.heap.size (.slice A5 lc.length c5) lc) := by
    show RwI U9 w.heap.size (.slice A5 lc.length c5) lc
    rw [hU9]; exact (Q5.out.fr1 R8.out.rd.1 (by decide) hst.2).fr1 hR.pbk (by decide) (fr_set 6 _)
  clear Q5
  have Q5 := gQ5
  clear gQ5
  have gQ6 : Hid (RwI U9 w.heap.size (.slice A6 lm.length c6) lm) := by
    show RwI U9 w.heap.size (.slice A6 lm.length c6) lm
    rw [hU9]; exact (Q6.out.fr1 R8.out.rd.1 (by decide) hst.2).fr1 hR.pbk (by decide) (fr_set 6 _)
  clear Q6
  have Q6 := gQ6
  clear gQ6
  have gQ7 : Hid (RwI U9 w.heap.size (.slice A7 lh.length c7) lh) := by
    show RwI U9 w.heap.size (.slice A7 lh.length c7) lh
    rw [hU9]; exact (Q7.out.fr1 R8.out.rd.1 (by decide) hst.2).fr1 hR.pbk (by decide) (fr_set 6 _)
  clear Q7
  have Q7 := gQ7
  clear gQ7
  have gQ8 : Hid (RwL U9 w.heap.size (.slice A8 lx.length c8) lx) := by
    show RwL U9 w.heap.size (.slice A8 lx.length c8) lx
    rw [hU9]; exact (Q8.out.fr1 R8.out.rd.1 (by decide) (by decide) hst.2).fr1 hR.pbk (by decide) (by decide) (fr_set 6 _)
  clear Q8
  have Q8 := gQ8
  clear gQ8
  have R9 := Lib.hid hR2
  clear hst hR hR2 hU9 t9 tz9 R8
  go_upto_region 10 with fail
  rw [HU.out]
  clear y0 y1 y2 HU
  have t10 : U9.cell? ⟨tb, 0, none⟩ = some (.pointer (some ⟨g, 0, none⟩)) := (R9.out.tbk.cell 0).trans rfl
  go_wp2_with fail
  refine (DE.out base g v U9 R9.out.rd).mono ?_
  rintro e V ⟨rfl, hf⟩
  have hne1 : w.heap.size ≠ g := fun e => Blk.ne_ R9.out.rd.1 R9.out.rbk (by decide) e.symm
  have hne2 : pb ≠ g := fun e => Blk.ne_ R9.out.rd.1 R9.out.pbk (by decide) e.symm
  have BR := Lib.hid (hf.blk R9.out.rbk hne1)
  have BP := Lib.hid (hf.blk R9.out.pbk hne2)
  have hbv : Below w.heap.size w V := R9.out.bel.trans (hf.below R9.out.bel.size (fun i hi => by have := R9.out.lo; omega))
  have HBV := Lib.hid hbv
  have q3 := Q3.out.fr1 R9.out.rd.1 (by decide) (by decide) hf
  have q5 := Q5.out.fr1 R9.out.rd.1 (by decide) hf
  have q6 := Q6.out.fr1 R9.out.rd.1 (by decide) hf
  have q7 := Q7.out.fr1 R9.out.rd.1 (by decide) hf
  have q8 := Q8.out.fr1 R9.out.rd.1 (by decide) (by decide) hf
  have hrp : RP V V.heap.size ⟨A3, c3, A5, c5, A6, c6, A7, c7, A8, c8⟩ ⟨lf, m, lc, lm, lh, lx, th⟩ := ⟨q3.rf rfl, q5.ri rfl, q6.ri rfl, q7.ri rfl, q8.rl rfl⟩
  have HRP := Lib.hid hrp
  have zv := hbv.size
  clear t10 hf hne1 hne2 hbv hrp R9 Q3 Q5 Q6 Q7 Q8
  have Q3 := Lib.hid q3; have Q5 := Lib.hid q5; have Q6 := Lib.hid q6; have Q7 := Lib.hid q7; have Q8 := Lib.hid q8
  clear q3 q5 q6 q7 q8
  generalize hE : endE bs s9 = E at *
  have HE := Lib.hid hE
  clear hE
  have r0 : V.cell? ⟨w.heap.size, 0, none⟩ = some (.slice none 0 0) := (BR.out.cell 0).trans rfl
  have r1 : V.cell? ⟨w.heap.size, 1, none⟩ = some (.int .i64 0) := (BR.out.cell 1).trans rfl
  have r2 : V.cell? ⟨w.heap.size, 2, none⟩ = some (.slice none 0 0) := (BR.out.cell 2).trans rfl
  have r3 : V.cell? ⟨w.heap.size, 3, none⟩ = some (.slice none 0 0) := (BR.out.cell 3).trans rfl
  have r4 : V.cell? ⟨w.heap.size, 4, none⟩ = some (.slice none 0 0) := (BR.out.cell 4).trans rfl
  have r5 : V.cell? ⟨w.heap.size, 5, none⟩ = some (.slice none 0 0) := (BR.out.cell 5).trans rfl
  have r6 : V.cell? ⟨w.heap.size, 6, none⟩ = some (.int .i64 0) := (BR.out.cell 6).trans rfl
  have x0 := BR.out.frozen 0
  have x1 := BR.out.frozen 1
  have x2 := BR.out.frozen 2
  have x3 := BR.out.frozen 3
  have x4 := BR.out.frozen 4
  have x5 := BR.out.frozen 5
  have x6 := BR.out.frozen 6
  have xz := BR.out.lt
  by_cases he : E = 0
  · subst he
    have hmay := (mayC_any ⟨A3, c3, A5, c5, A6, c6, A7, c7, A8, c8⟩ ⟨lf, m, lc, lm, lh, lx, th⟩ V V.heap.size HRP.out (Nat.le_refl _) (few_lens HFEW.out))
    rw [may_eq] at hmay
    have HMAY := Lib.hid hmay
    clear hmay
    have d0 : V.cell? ⟨pb, 0, none⟩ = some (.slice A3 lf.length c3) := (BP.out.cell 0).trans rfl
    have d1 : V.cell? ⟨pb, 1, none⟩ = some (.int .i64 m) := (BP.out.cell 1).trans rfl
    have d2 : V.cell? ⟨pb, 2, none⟩ = some (.slice A5 lc.length c5) := (BP.out.cell 2).trans rfl
    have d3 : V.cell? ⟨pb, 3, none⟩ = some (.slice A6 lm.length c6) := (BP.out.cell 3).trans rfl
    have d4 : V.cell? ⟨pb, 4, none⟩ = some (.slice A7 lh.length c7) := (BP.out.cell 4).trans rfl
    have d5 : V.cell? ⟨pb, 5, none⟩ = some (.slice A8 lx.length c8) := (BP.out.cell 5).trans rfl
    have d6 : V.cell? ⟨pb, 6, none⟩ = some (.int .i64 th) := (BP.out.cell 6).trans rfl
    have dz := BP.out.lt
    go_wp2_with fail
    refine HMAY.out.mono ?_
    rintro e V2 ⟨rfl, hb2⟩
    have BR2 := Lib.hid (BR.out.below hb2 BR.out.lt)
    have BP2 := Lib.hid (BP.out.below hb2 BP.out.lt)
    have HB2 := Lib.hid hb2
    clear hb2 r0 r1 r2 r3 r4 r5 r6 x0 x1 x2 x3 x4 x5 x6 xz d0 d1 d2 d3 d4 d5 d6 dz HMAY HRP
    have r0 : V2.cell? ⟨w.heap.size, 0, none⟩ = some (.slice none 0 0) := (BR2.out.cell 0).trans rfl
    have x0 := BR2.out.frozen 0
    have d0 : V2.cell? ⟨pb, 0, none⟩ = some (.slice A3 lf.length c3) := (BP2.out.cell 0).trans rfl
    have r1 : V2.cell? ⟨w.heap.size, 1, none⟩ = some (.int .i64 0) := (BR2.out.cell 1).trans rfl
    have x1 := BR2.out.frozen 1
    have d1 : V2.cell? ⟨pb, 1, none⟩ = some (.int .i64 m) := (BP2.out.cell 1).trans rfl
    have r2 : V2.cell? ⟨w.heap.size, 2, none⟩ = some (.slice none 0 0) := (BR2.out.cell 2).trans rfl
    have x2 := BR2.out.frozen 2
    have d2 : V2.cell? ⟨pb, 2, none⟩ = some (.slice A5 lc.length c5) := (BP2.out.cell 2).trans rfl
    have r3 : V2.cell? ⟨w.heap.size, 3, none⟩ = some (.slice none 0 0) := (BR2.out.cell 3).trans rfl
    have x3 := BR2.out.frozen 3
    have d3 : V2.cell? ⟨pb, 3, none⟩ = some (.slice A6 lm.length c6) := (BP2.out.cell 3).trans rfl
    have r4 : V2.cell? ⟨w.heap.size, 4, none⟩ = some (.slice none 0 0) := (BR2.out.cell 4).trans rfl
    have x4 := BR2.out.frozen 4
    have d4 : V2.cell? ⟨pb, 4, none⟩ = some (.slice A7 lh.length c7) := (BP2.out.cell 4).trans rfl
    have r5 : V2.cell? ⟨w.heap.size, 5, none⟩ = some (.slice none 0 0) := (BR2.out.cell 5).trans rfl
    have x5 := BR2.out.frozen 5
    have d5 : V2.cell? ⟨pb, 5, none⟩ = some (.slice A8 lx.length c8) := (BP2.out.cell 5).trans rfl
    have r6 : V2.cell? ⟨w.heap.size, 6, none⟩ = some (.int .i64 0) := (BR2.out.cell 6).trans rfl
    have x6 := BR2.out.frozen 6
    have d6 : V2.cell? ⟨pb, 6, none⟩ = some (.int .i64 th) := (BP2.out.cell 6).trans rfl
    have xz := BR2.out.lt
    have dz := BP2.out.lt
    have HBW : Hid (Below w.heap.size w V2) := HBV.out.trans (HB2.out.mono zv)
    cases hmb : mayB ⟨lf, m, lc, lm, lh, lx, th⟩
    · have hr : readE bs = 1 := by rw [HRE.out, hmb]; rfl
      have HRR := Lib.hid hr
      clear hr hmb
      go_wp2_with fail
      refine bodyPost_ret (v := .tuple #[.agg #[.slice none 0 0, .int .i64 0, .slice none 0 0, .slice none 0 0, .slice none 0 0, .slice none 0 0, .int .i64 0], .int .i64 1]) (by simp [results, Try.results14, go_sem, r0, r1, r2, r3, r4, r5, r6, xz]) rfl ?_
      refine ⟨⟨none, 0, none, 0, none, 0, none, 0, none, 0⟩, ?_, ?_, ?_⟩
      · rw [HRR.out]; unfold readP; rw [if_neg (by rw [HRR.out]; decide)]; rfl
      · unfold readP; rw [if_neg (by rw [HRR.out]; decide)]; exact rp_no _ _
      · exact below7 HBW.out (Nat.le_refl _) _ _ _ _ _ _ _
    · have hr : readE bs = 0 := by rw [HRE.out, hmb]; rfl
      have HRR := Lib.hid hr
      clear hr hmb
      go_wp2_with fail
      refine bodyPost_ret (v := .tuple #[.agg #[.slice A3 lf.length c3, .int .i64 m, .slice A5 lc.length c5, .slice A6 lm.length c6, .slice A7 lh.length c7, .slice A8 lx.length c8, .int .i64 th], .int .i64 0]) (by simp [results, Try.results14, go_sem, r0, r1, r2, r3, r4, r5, r6, xz]) rfl ?_
      have hrp : readP bs = ⟨lf, m, lc, lm, lh, lx, th⟩ := by unfold readP; rw [if_pos HRR.out, HPP.out]
      refine ⟨⟨A3, c3, A5, c5, A6, c6, A7, c7, A8, c8⟩, ?_, ?_, ?_⟩
      · rw [HRR.out, hrp]
      · rw [hrp]
        exact ⟨((Q3.out.below HB2.out).fr1 BR2.out (by decide) (by decide) (fr7 _ _ _ _ _ _ _)).rf rfl, ((Q5.out.below HB2.out).fr1 BR2.out (by decide) (fr7 _ _ _ _ _ _ _)).ri rfl, ((Q6.out.below HB2.out).fr1 BR2.out (by decide) (fr7 _ _ _ _ _ _ _)).ri rfl, ((Q7.out.below HB2.out).fr1 BR2.out (by decide) (fr7 _ _ _ _ _ _ _)).ri rfl, ((Q8.out.below HB2.out).fr1 BR2.out (by decide) (by decide) (fr7 _ _ _ _ _ _ _)).rl rfl⟩
      · exact below7 HBW.out (Nat.le_refl _) _ _ _ _ _ _ _
  · have he' : (E != 0) = true := by simpa using he
    have HN := Lib.hid he
    clear he
    go_wp2_with fail
    refine bodyPost_ret (v := .tuple #[.agg #[.slice none 0 0, .int .i64 0, .slice none 0 0, .slice none 0 0, .slice none 0 0, .slice none 0 0, .int .i64 0], .int .i64 E]) (by simp [results, Try.results14, go_sem, r0, r1, r2, r3, r4, r5, r6, xz]) rfl ?_
    have hr : readE bs = E := by rw [HRE.out, if_pos HN.out]
    refine ⟨⟨none, 0, none, 0, none, 0, none, 0, none, 0⟩, ?_, ?_, ?_⟩
    · rw [hr]; unfold readP; rw [if_neg (by rw [hr]; exact HN.out)]; rfl
    · unfold readP; rw [if_neg (by rw [hr]; exact HN.out)]; exact rp_no _ _
    · exact below7 HBV.out (Nat.le_refl _) _ _ _ _ _ _ _
end Go.Proofs.Ytmjbfobjndiecaa
