
/-
  Reader, RdShort, RdWith, RdCalls in one text.
-/
import Derived.Test.YtmjbfobjndiecaaHelp
import Derived.Deep.RegionHeld3
import Derived.OneCell
set_option linter.unusedVariables false
set_option linter.unusedSimpArgs false
namespace Go.Proofs.Ytmjbfobjndiecaa
section
open Go.RowKit Plain

/-- The Reader whose struct lies in block g: its bytes bs are the slice v, in a row of its own; the place; the error. -/
def Rd (w : World) (base g : Nat) (v : Value) (bs : List Nat) (at_ : Nat) (e : Int) : Prop :=
  Blk w g 110 #[v, .int .i64 (at_ : Int), .int .i64 e] ∧ w.ownsRow base 5 1 v bs.length (BS bs) ∧ at_ ≤ bs.length

section
variable {w w' : World} {base g at_ : Nat} {v : Value} {bs : List Nat} {e : Int}
theorem Rd.lt (h : Rd w base g v bs at_ e) : g < w.heap.size := h.1.lt
theorem Rd.fr {S : Nat → Prop} (h : Rd w base g v bs at_ e) (hf : Fr S w w') (hg : ¬ S g) (hS : ∀ i, v.ownBlock = some i → ¬ S i) : Rd w' base g v bs at_ e :=
  ⟨hf.blk h.1 hg, hf.own h.2.1 hS, h.2.2⟩
theorem Rd.below (h : Rd w base g v bs at_ e) (hb : Below w.heap.size w w') : Rd w' base g v bs at_ e :=
  h.fr (Fr.of_below hb) (by have := h.lt; omega) (fun i hi => by have := (h.2.1.lt i hi).2; omega)
theorem Rd.slice_ (h : Rd w base g v bs at_ e) : ∃ A c, v = .slice A bs.length c ∧ bs.length ≤ c := by
  rcases h.2.1.2 with ⟨rfl, h0⟩ | ⟨k, cap, _, rfl, _, _, hc, _⟩
  · exact ⟨none, 0, by rw [h0], by omega⟩
  · exact ⟨_, cap, rfl, hc⟩
theorem Rd.ne (h : Rd w base g v bs at_ e) : v.ownBlock ≠ some g := own_blk_ne h.2.1 h.1 (by decide)
end

theorem enters49 : ∀ (args : Array Value) (W : World), (callFunc 81 args).run Try.prog W = .ok (.enter 81 args) W := by
  intro args W
  go_simp

set_option maxHeartbeats 1000000 in
/-- read, where there is no error: the closure is handed what is left. -/
theorem read_go (base g : Nat) (v : Value) (bs : List Nat) (at_ : Nat) (w : World) (hR : Rd w base g v bs at_ 0) (f : FuncId) (caps : Array Value) (PP : Int → Int → World → Prop) (hent : ∀ (args : Array Value) (W : World), (callFunc f args).run Try.prog W = .ok (.enter f args) W) (hlen : bs.length ≤ 140737488355328)
    (hcl : ∀ (A : Option Addr) (n c : Nat), n = bs.length - at_ → Reads w.drew w.heap.size 1 A n (BS (bs.drop at_)) → n ≤ c →
      Calls Try.prog f (#[.slice A n c] ++ caps) w.drew fun e w1 => ∃ n er, e = .returned (.tuple #[.int .i64 n, .int .i64 er]) ∧ PP n er w1)
    (hP : ∀ n er w1, PP n er w1 → Blk w1 g 110 #[v, .int .i64 (at_ : Int), .int .i64 0] ∧ 0 ≤ n ∧ (at_ : Int) + n ≤ bs.length) :
    Calls Try.prog 80 #[.pointer (some ⟨g, 0, none⟩), .func (.func f) #[] caps] w fun e w' => e = .returned (.tuple #[]) ∧ 
      ∃ n er w1, PP n er w1 ∧ ((er = 0 ∧ w' = w1.setCell ⟨g, 1, none⟩ (.int .i64 (at_ + n))) ∨ (er ≠ 0 ∧ w' = w1.setCell ⟨g, 2, none⟩ (.int .i64 er))) := by
  have h0 : w.cell? ⟨g, 0, none⟩ = some v := by rw [hR.1.cell]; rfl
  have h1 : w.cell? ⟨g, 1, none⟩ = some (.int .i64 (at_ : Int)) := by rw [hR.1.cell]; rfl
  have h2 : w.cell? ⟨g, 2, none⟩ = some (.int .i64 0) := by rw [hR.1.cell]; rfl
  obtain ⟨A, c, rfl, hc⟩ := hR.slice_
  have hle := hR.2.2
  have hrd : Reads w.drew w.heap.size 1 (if c = at_ then A else Option.map (fun x => x.add at_) A) (bs.length - at_) (BS (bs.drop at_)) := by
    have := (Reads.of_own hR.2.1).cut (k := at_) hle hc
    simp only [Nat.mul_one] at this
    rw [show (BS bs).drop at_ = BS (bs.drop at_) by simp [BS]] at this
    exact this.drew
  have HC := Lib.hid hcl
  have HP := Lib.hid hP
  have HR := Lib.hid hR
  clear hcl hP hR
  by_cases hca : c = at_
  · subst hca
    rw [if_pos rfl, show bs.length - c = 0 by omega] at hrd
    have HRD := Lib.hid hrd
    clear hrd
    go_enter Try.func80, Try.ntmps80
    go_wp2_with fail
    go_region_held3 (fun w' => w'.cell? ⟨g, 0, none⟩ = some (.slice A bs.length c) ∧ w'.cell? ⟨g, 1, none⟩ = some (.int .i64 (c : Int)))
      (first | go_keep | (have hb := (HP.out _ _ _ hp).1; exact ⟨by rw [hb.cell]; rfl, by rw [hb.cell]; rfl⟩))
      ((go_simp; refine (HC.out A 0 0 (by omega) HRD.out (by omega)).mono ?_; rintro e w1 ⟨n, er, rfl, hp⟩))
    obtain ⟨hb, hn0, hn1⟩ := HP.out _ _ _ hp
    have c1 : w1.cell? ⟨g, 1, none⟩ = some (.int .i64 (c : Int)) := by rw [hb.cell]; rfl
    have f1 := hb.frozen 1
    have f2 := hb.frozen 2
    have c2 : w1.cell? ⟨g, 2, none⟩ = some (.int .i64 0) := by rw [hb.cell]; rfl
    have HB := Lib.hid hb
    clear hb h0 h1 h2
    by_cases he : er = 0
    · subst he
      go_wp2_with fail
      go_end0
      exact ⟨rfl, n, 0, w1, hp, .inl ⟨rfl, rfl⟩⟩
    · have he' : (er != 0) = true := by simpa using he
      have HE := Lib.hid he
      clear he
      go_wp2_with fail
      refine bodyPost_ret (results_none rfl _ _ _) rfl ?_
      exact ⟨rfl, n, er, w1, hp, .inr ⟨HE.out, rfl⟩⟩
  · rw [if_neg hca] at hrd
    have HRD := Lib.hid hrd
    clear hrd
    go_enter Try.func80, Try.ntmps80
    go_wp2_with fail
    go_region_held3 (fun w' => w'.cell? ⟨g, 0, none⟩ = some (.slice A bs.length c) ∧ w'.cell? ⟨g, 1, none⟩ = some (.int .i64 (at_ : Int)))
      (first | go_keep | (have hb := (HP.out _ _ _ hp).1; exact ⟨by rw [hb.cell]; rfl, by rw [hb.cell]; rfl⟩))
      ((go_simp; refine (HC.out _ _ _ rfl HRD.out (by omega)).mono ?_; rintro e w1 ⟨n, er, rfl, hp⟩))
    obtain ⟨hb, hn0, hn1⟩ := HP.out _ _ _ hp
    have c1 : w1.cell? ⟨g, 1, none⟩ = some (.int .i64 (at_ : Int)) := by rw [hb.cell]; rfl
    have f1 := hb.frozen 1
    have f2 := hb.frozen 2
    have c2 : w1.cell? ⟨g, 2, none⟩ = some (.int .i64 0) := by rw [hb.cell]; rfl
    have HB := Lib.hid hb
    clear hb h0 h1 h2
    by_cases he : er = 0
    · subst he
      go_wp2_with fail
      go_end0
      exact ⟨rfl, n, 0, w1, hp, .inl ⟨rfl, rfl⟩⟩
    · have he' : (er != 0) = true := by simpa using he
      have HE := Lib.hid he
      clear he
      go_wp2_with fail
      refine bodyPost_ret (results_none rfl _ _ _) rfl ?_
      exact ⟨rfl, n, er, w1, hp, .inr ⟨HE.out, rfl⟩⟩

/-- read, where there is an error: nothing is done. -/
theorem read_err (g : Nat) (e : Int) (fv : Value) (w : World) (h2 : w.cell? ⟨g, 2, none⟩ = some (.int .i64 e)) (he : e ≠ 0) :
    Calls Try.prog 80 #[.pointer (some ⟨g, 0, none⟩), fv] w fun e w' => e = .returned (.tuple #[]) ∧ w = w' := by
  have he' : (e != 0) = true := by simpa using he
  clear he
  go_enter Try.func80, Try.ntmps80
  go_wp2_with fail
  refine bodyPost_ret (results_none rfl _ _ _) rfl ?_
  exact ⟨rfl, rfl⟩
end

section
open Go.RowKit Plain

def ShRel (xs : List Nat) (n k v : Nat) : Prop := k ≤ n ∧ k ≤ 8 ∧ v < 128 ^ k ∧ rsGo k v (xs.drop k) = rs xs
def Told (xs : List Nat) (e : Ending) : Prop := e = .returned (.tuple #[.int .i64 ((rs xs).1 : Int), .int .i64 ((rs xs).2.1 : Int), .int .i64 ((rs xs).2.2 : Int)])

theorem told_of {xs : List Nat} {a b c : Nat} {b' : Int} (h : rs xs = (a, b, c)) (hb : b' = (b : Int)) (c' : Int) (hc : c' = (c : Int)) (a' : Int) (ha : a' = (a : Int)) :
    Told xs (.returned (.tuple #[.int .i64 a', .int .i64 b', .int .i64 c'])) := by
  subst hb; subst hc; subst ha
  unfold Told
  rw [h]

set_option maxHeartbeats 1000000 in
set_option maxRecDepth 100000 in
theorem rshort_any (xs : List Nat) (n : Nat) (hl : xs.length = n) (hx : ∀ x ∈ xs, x < 256) (w : World) (BB : Nat) (A : Option Addr) (c : Nat) (ha : Reads w BB 1 A n (BS xs)) (hn : n ≤ 140737488355328) :
    Calls Try.prog 82 #[.slice A n c] w fun e w' => Told xs e ∧ w = w' := by
  have HA := Lib.hid ha
  have HX := Lib.hid hx
  have HLl := Lib.hid hl
  clear ha hx hl
  go_enter Try.func82, Try.ntmps82
  go_wp2_with fail
  go_loop [5, 10] (fun v i => ∃ k vv : Nat, i = .int .i64 (k : Int) ∧ v = .int .i64 (vv : Int) ∧ Hid (ShRel xs n k vv) ∧ k ≤ n ∧ k ≤ 8) (fun _ i => n - (intOf i).toNat)
  case atStart =>
    exact ⟨0, 0, rfl, rfl, ⟨by omega, by omega, by simp, rfl⟩, by omega, by omega⟩
  case round =>
    obtain ⟨k, vv, rfl, rfl, hr, hk, hk8⟩ := hrel
    by_cases hlt : k < n
    · obtain ⟨ad, u, rfl, _, hu, hcell⟩ := HA.out.at_ hlt
      obtain ⟨x, hx, rfl⟩ : ∃ x : Nat, xs[k]? = some x ∧ .int .u8 (x : Int) = u := by
        simp [BS, B] at hu
        exact hu
      have hx256 : x < 256 := HX.out x (List.mem_of_getElem? hx)
      have HXK := Lib.hid hx
      clear hx hu
      obtain ⟨hr1, hr2, hr3, hr4⟩ := hr
      obtain ⟨y, hy⟩ : ∃ y, y = x % 128 := ⟨_, rfl⟩
      obtain ⟨V, hV⟩ : ∃ V, V = vv + y * 128 ^ k := ⟨_, rfl⟩
      have hy128 : y < 128 := by omega
      have hand : bits .and .u8 (x : Int) 127 = (y : Int) := by rw [u8_and127 x hx256, hy]
      have hor : bits .or .i64 (vv : Int) (wrap64 ((y : Int) * 2 ^ (7 * k))) = (V : Int) := by rw [hV]; exact or_shl vv y k hr3 hy128 hk8
      have HR3 := Lib.hid hr3; have HR4 := Lib.hid hr4; have HY := Lib.hid hy; have HV := Lib.hid hV
      clear hr3 hr4 hy hV
      have HT := Lib.hid (rsGo_step HXK.out vv)
      rw [HR4.out] at HT
      by_cases hx128 : x < 128
      · by_cases hx0 : 0 < x
        · have e : rs xs = (V, k + 1, 0) := by rw [HT.out, if_pos ⟨hx128, .inl hx0⟩, HV.out, HY.out]
          have E := Lib.hid e
          clear e
          go_wp2_with fail
          go_ret3
          exact ⟨told_of E.out rfl _ rfl _ rfl, rfl⟩
        · have hxb : ((x : Int) == 0) = true := by rw [beq_iff_eq]; omega
          by_cases hk0' : k = 0
          · have e : rs xs = (V, k + 1, 0) := by rw [HT.out, if_pos ⟨hx128, .inr hk0'⟩, HV.out, HY.out]
            have E := Lib.hid e
            have hkb : ((k : Int) == 0) = true := by rw [beq_iff_eq]; omega
            clear e hk0'
            go_wp2_with fail
            go_ret3
            exact ⟨told_of E.out rfl _ rfl _ rfl, rfl⟩
          · have e : rs xs = (0, 0, 3) := by rw [HT.out, if_neg (by omega), if_pos (.inl (by omega))]
            have E := Lib.hid e
            have hkb : ((k : Int) == 0) = false := by rw [beq_eq_false_iff_ne]; omega
            clear e
            go_wp2_with fail
            go_ret3
            exact ⟨told_of E.out rfl _ rfl _ rfl, rfl⟩
      · have hxb : ((x : Int) == 0) = false := by rw [beq_eq_false_iff_ne]; omega
        by_cases h8 : k = 8
        · have e : rs xs = (0, 0, 3) := by rw [HT.out, if_neg (by omega), if_pos (.inr h8)]
          have E := Lib.hid e
          have hkb : ((k : Int) == 8) = true := by rw [beq_iff_eq]; omega
          clear e h8
          go_wp2_with fail
          go_ret3
          exact ⟨told_of E.out rfl _ rfl _ rfl, rfl⟩
        · have e : rsGo (k + 1) V (xs.drop (k + 1)) = rs xs := by rw [HT.out, if_neg (by omega), if_neg (by omega), HV.out, HY.out]
          have E := Lib.hid e
          have hkb : ((k : Int) == 8) = false := by rw [beq_eq_false_iff_ne]; omega
          clear e
          go_wp2_with fail
          refine ⟨⟨k + 1, V, by go_num, rfl, ⟨by omega, by omega, ?_, E.out⟩, by omega, by omega⟩, by simp [intOf]; omega⟩
          have h1 := HR3.out
          have h2 : y * 128 ^ k ≤ 127 * 128 ^ k := Nat.mul_le_mul_right _ (by omega)
          rw [HV.out, Nat.pow_succ]
          omega
    · have e : rs xs = (0, 0, 2) := by rw [← hr.2.2.2]; exact rsGo_end (by have := HLl.out; omega) _
      have E := Lib.hid e
      clear e
      go_wp2_with fail
      go_ret3
      exact ⟨told_of E.out rfl _ rfl _ rfl, rfl⟩
end

section
open Go.RowKit Plain

/-- The place and the error behind a call whose closure takes N bytes, with the error E. -/
def stepR (at_ : Nat) (e : Int) (N E : Nat) : Nat × Int := if e = 0 then (if E = 0 then (at_ + N, 0) else (at_, (E : Int))) else (at_, e)

/-- What is known behind a Reader's call. -/
def RdStep (base g : Nat) (v : Value) (bs : List Nat) (p : Nat × Int) (w w' : World) : Prop := Rd w' base g v bs p.1 p.2 ∧ Fr (fun i => i = g) w w'

theorem RdStep.lt {base g : Nat} {v : Value} {bs : List Nat} {p : Nat × Int} {w w' : World} (h : RdStep base g v bs p w w') : w.heap.size ≤ w'.heap.size := h.2.size

/-- A Reader's call whose closure leaves in its variable something of which PV holds. -/
theorem read_withP (base g cv : Nat) (v v0 : Value) (PV : Value → World → Prop) (T : TypeId) (bs : List Nat) (at_ : Nat) (e : Int) (w : World) (hR : Rd w base g v bs at_ e) (hcv : Blk w cv T #[v0]) (hT : 5 ≠ T) (hT' : 110 ≠ T)
    (f : FuncId) (caps : Array Value) (hent : ∀ (args : Array Value) (W : World), (callFunc f args).run Try.prog W = .ok (.enter f args) W) (hlen : bs.length ≤ 140737488355328) (N E : Nat)
    (hPV : ∀ val w1 (u : Addr) x, u.block = g → PV val w1 → PV val (w1.setCell u x))
    (hcl : e = 0 → ∀ (A : Option Addr) (n c : Nat), n = bs.length - at_ → Reads w.drew w.heap.size 1 A n (BS (bs.drop at_)) → n ≤ c →
      Calls Try.prog f (#[.slice A n c] ++ caps) w.drew fun en w1 => en = .returned (.tuple #[.int .i64 (N : Int), .int .i64 (E : Int)]) ∧ ∃ val, PV val w1 ∧ Blk w1 cv T #[val] ∧ Fr (fun i => i = cv) w w1)
    (hN : at_ + N ≤ bs.length) :
    Calls Try.prog 80 #[.pointer (some ⟨g, 0, none⟩), .func (.func f) #[] caps] w fun en w' => en = .returned (.tuple #[]) ∧
      Rd w' base g v bs (stepR at_ e N E).1 (stepR at_ e N E).2 ∧ Fr (fun i => i = g ∨ i = cv) w w' ∧ ∃ val, Blk w' cv T #[val] ∧ ((e = 0 ∧ PV val w') ∨ (e ≠ 0 ∧ val = v0)) := by
  have hgc : g ≠ cv := Blk.ne_ hR.1 hcv hT'
  have hvc : v.ownBlock ≠ some cv := own_blk_ne hR.2.1 hcv hT
  by_cases he : e = 0
  · subst he
    have hblk : ∀ w1, Fr (fun i => i = cv) w w1 → Blk w1 g 110 #[v, .int .i64 (at_ : Int), .int .i64 0] := fun w1 hf => hf.blk hR.1 hgc
    refine (read_go base g v bs at_ w hR f caps (fun n er w1 => n = (N : Int) ∧ er = (E : Int) ∧ ∃ val, PV val w1 ∧ Blk w1 cv T #[val] ∧ Fr (fun i => i = cv) w w1) hent hlen (fun A n c h1 h2 h3 => (hcl rfl A n c h1 h2 h3).mono ?_) ?_).mono ?_
    · rintro en w1 ⟨rfl, h4⟩
      exact ⟨_, _, rfl, rfl, rfl, h4⟩
    · rintro n er w1 ⟨rfl, rfl, _, _, _, h5⟩
      exact ⟨hblk w1 h5, by omega, by omega⟩
    · rintro en w' ⟨rfl, n, er, w1, ⟨rfl, rfl, val, h3, h4, h5⟩, h6⟩
      have hown : ∀ u : Addr, u.block = g → ∀ x, (w1.setCell u x).ownsRow base 5 1 v bs.length (BS bs) := fun u hu x => by
        have h7 := h5.own hR.2.1 (fun i hi hc => hvc (by rw [hi, hc]))
        exact ((Fr.refl (fun i => i = g) w1).setCell (p := u) (.inl hu) x).own h7 (fun i hi hc => hR.ne (by rw [hi, hc]))
      have hfr : ∀ u : Addr, u.block = g → ∀ x, Fr (fun i => i = g ∨ i = cv) w (w1.setCell u x) := fun u hu x => (h5.mono (fun i _ h => .inr h)).setCell (.inl (.inl hu)) x
      rcases h6 with ⟨hE, rfl⟩ | ⟨hE, rfl⟩
      · have hs : stepR at_ 0 N E = (at_ + N, 0) := by unfold stepR; rw [if_pos rfl, if_pos (by omega)]
        rw [hs]
        exact ⟨rfl, ⟨by simpa using (hblk w1 h5).set_ 1 _, hown ⟨g, 1, none⟩ rfl _, hN⟩, hfr ⟨g, 1, none⟩ rfl _, val, h4.far (p := ⟨g, 1, none⟩) (Ne.symm hgc) _, .inl ⟨rfl, hPV _ _ ⟨g, 1, none⟩ _ rfl h3⟩⟩
      · have hs : stepR at_ 0 N E = (at_, (E : Int)) := by unfold stepR; rw [if_pos rfl, if_neg (by omega)]
        rw [hs]
        exact ⟨rfl, ⟨by simpa using (hblk w1 h5).set_ 2 _, hown ⟨g, 2, none⟩ rfl _, hR.2.2⟩, hfr ⟨g, 2, none⟩ rfl _, val, h4.far (p := ⟨g, 2, none⟩) (Ne.symm hgc) _, .inl ⟨rfl, hPV _ _ ⟨g, 2, none⟩ _ rfl h3⟩⟩
  · have hs : stepR at_ e N E = (at_, e) := by unfold stepR; rw [if_neg he]
    rw [hs]
    have h2 : w.cell? ⟨g, 2, none⟩ = some (.int .i64 e) := by rw [hR.1.cell]; rfl
    refine (read_err g e _ w h2 he).mono ?_
    rintro en w' ⟨rfl, rfl⟩
    exact ⟨rfl, hR, Fr.refl _ _, v0, hcv, .inr ⟨he, rfl⟩⟩

theorem read_with (base g cv : Nat) (v v0 val : Value) (T : TypeId) (bs : List Nat) (at_ : Nat) (e : Int) (w : World) (hR : Rd w base g v bs at_ e) (hcv : Blk w cv T #[v0]) (hT : 5 ≠ T) (hT' : 110 ≠ T)
    (f : FuncId) (caps : Array Value) (hent : ∀ (args : Array Value) (W : World), (callFunc f args).run Try.prog W = .ok (.enter f args) W) (hlen : bs.length ≤ 140737488355328) (N E : Nat)
    (hcl : e = 0 → ∀ (A : Option Addr) (n c : Nat), n = bs.length - at_ → Reads w.drew w.heap.size 1 A n (BS (bs.drop at_)) → n ≤ c →
      Calls Try.prog f (#[.slice A n c] ++ caps) w.drew fun en w1 => en = .returned (.tuple #[.int .i64 (N : Int), .int .i64 (E : Int)]) ∧ Blk w1 cv T #[val] ∧ Fr (fun i => i = cv) w w1)
    (hN : at_ + N ≤ bs.length) :
    Calls Try.prog 80 #[.pointer (some ⟨g, 0, none⟩), .func (.func f) #[] caps] w fun en w' => en = .returned (.tuple #[]) ∧
      Rd w' base g v bs (stepR at_ e N E).1 (stepR at_ e N E).2 ∧ Blk w' cv T #[if e = 0 then val else v0] ∧ Fr (fun i => i = g ∨ i = cv) w w' := by
  refine (read_withP base g cv v v0 (fun x _ => x = val) T bs at_ e w hR hcv hT hT' f caps hent hlen N E (fun _ _ _ _ _ h => h) (fun he A n c h1 h2 h3 => (hcl he A n c h1 h2 h3).mono ?_) hN).mono ?_
  · rintro en w1 ⟨rfl, h4, h5⟩
    exact ⟨rfl, val, rfl, h4, h5⟩
  · rintro en w1 ⟨rfl, h4, h5, x, h6, ⟨he, rfl⟩ | ⟨he, rfl⟩⟩
    · exact ⟨rfl, h4, by rw [if_pos he]; exact h6, h5⟩
    · exact ⟨rfl, h4, by rw [if_neg he]; exact h6, h5⟩

theorem Rd.alloc {w : World} {base g at_ : Nat} {v : Value} {bs : List Nat} {e : Int} (h : Rd w base g v bs at_ e) (o : Obj) : Rd (w.alloc o) base g v bs at_ e := ⟨h.1.alloc o, h.2.1.alloc o, h.2.2⟩
theorem Rd.drewN {w : World} {base g at_ : Nat} {v : Value} {bs : List Nat} {e : Int} (h : Rd w base g v bs at_ e) (n : Nat) : Rd (w.drewN n) base g v bs at_ e := h
theorem RdStep.of_new {base g : Nat} {v : Value} {bs : List Nat} {p : Nat × Int} {w w' : World} {o : Obj} (h : Rd w' base g v bs p.1 p.2) (hf : Fr (fun i => i = g ∨ i = w.heap.size) (w.alloc o) w') : RdStep base g v bs p w w' :=
  ⟨h, ((Fr.refl (fun i => i = g) w).alloc o).trans hf (fun i hi h => by rcases h with h | h <;> omega)⟩
theorem RdStep.of_new2 {base g : Nat} {v : Value} {bs : List Nat} {p : Nat × Int} {w w' : World} {o o' : Obj} (h : Rd w' base g v bs p.1 p.2) (hf : Fr (fun i => i = g ∨ i = w.heap.size + 1) ((w.alloc o).alloc o') w') : RdStep base g v bs p w w' :=
  ⟨h, (((Fr.refl (fun i => i = g) w).alloc o).alloc o').trans hf (fun i hi h => by rcases h with h | h <;> omega)⟩
end

section
open Go.RowKit Plain

theorem fr_one {w : World} {cv : Nat} (x : Value) : Fr (fun i => i = cv) w (w.setCell ⟨cv, 0, none⟩ x) := (Fr.refl (fun i => i = cv) w).setCell (p := ⟨cv, 0, none⟩) (.inl rfl) x

/-- A number that was read, or 0 where there was an error. -/
def orZ (e x : Int) : Int := if e = 0 then x else 0
theorem orZ_val (e x : Int) : (if e = 0 then Value.int .i64 x else Value.int .i64 0) = .int .i64 (orZ e x) := by unfold orZ; split <;> rfl
theorem orZ_val64 (e x : Int) : (if e = 0 then Value.int .u64 x else Value.int .u64 0) = .int .u64 (orZ e x) := by unfold orZ; split <;> rfl

set_option maxHeartbeats 400000 in
theorem cl_short (xs : List Nat) (n : Nat) (hl : xs.length = n) (hx : ∀ x ∈ xs, x < 256) (w : World) (BB : Nat) (A : Option Addr) (c cv : Nat) (v0 : Value) (ha : Reads w BB 1 A n (BS xs)) (hn : n ≤ 140737488355328)
    (hcv : Blk w cv 3 #[v0]) :
    Calls Try.prog 81 #[.slice A n c, .pointer (some ⟨cv, 0, none⟩)] w fun en w1 =>
      en = .returned (.tuple #[.int .i64 ((rs xs).2.1 : Int), .int .i64 ((rs xs).2.2 : Int)]) ∧ Blk w1 cv 3 #[.int .i64 ((rs xs).1 : Int)] ∧ Fr (fun i => i = cv) w w1 := by
  have hc : w.cell? ⟨cv, 0, none⟩ = some v0 := by rw [hcv.cell]; rfl
  have hf := hcv.frozen 0
  have HB := Lib.hid hcv
  clear hcv
  go_enter Try.func81, Try.ntmps81
  go_wp2_with fail
  refine (rshort_any xs n hl hx w BB A c ha hn).mono ?_
  rintro e w' ⟨he, rfl⟩
  unfold Told at he
  subst he
  go_wp2_with fail
  go_ret2
  exact ⟨rfl, by simpa using HB.out.set_ 0 _, fr_one _⟩

set_option maxHeartbeats 400000 in
theorem rd_short (base g : Nat) (v : Value) (bs : List Nat) (at_ : Nat) (e : Int) (w : World) (hR : Rd w base g v bs at_ e) (hx : ∀ x ∈ bs, x < 256) (hlen : bs.length ≤ 140737488355328) (hN : at_ + (rs (bs.drop at_)).2.1 ≤ bs.length) :
    Calls Try.prog 46 #[.pointer (some ⟨g, 0, none⟩)] w fun en w' =>
      en = .returned (.int .i64 (orZ e ((rs (bs.drop at_)).1 : Int))) ∧ RdStep base g v bs (stepR at_ e (rs (bs.drop at_)).2.1 (rs (bs.drop at_)).2.2) w w' := by
  have HR := Lib.hid hR
  have HX := Lib.hid hx
  have HN := Lib.hid hN
  clear hR hx hN
  go_enter Try.func46, Try.ntmps46
  go_wp2_with fail
  refine (read_with base g w.heap.size v (.int .i64 0) (.int .i64 ((rs (bs.drop at_)).1 : Int)) 3 bs at_ e _ (HR.out.alloc _) (Blk.new w _ _) (by decide) (by decide) 81 #[.pointer (some ⟨w.heap.size, 0, none⟩)]
    (fun args W => by go_simp) hlen (rs (bs.drop at_)).2.1 (rs (bs.drop at_)).2.2 (fun _ A n c h1 h2 h3 => (cl_short (bs.drop at_) n (by rw [List.length_drop]; omega) (fun x hx => HX.out x (List.mem_of_mem_drop hx)) _ _ A c w.heap.size _ h2 (by omega) (Blk.new w _ _).drew).mono ?_) HN.out).mono ?_
  · rintro en w1 ⟨rfl, h4, h5⟩
    exact ⟨rfl, h4, ((Fr.refl _ _).drew).trans h5 (fun _ _ h => h)⟩
  rintro en w' ⟨rfl, h4, h5, h6⟩
  have hc5 : w'.cell? ⟨w.heap.size, 0, none⟩ = some (.int .i64 (orZ e ((rs (bs.drop at_)).1 : Int))) := by rw [h5.cell, orZ_val]; rfl
  have H4 := Lib.hid h4
  have H6 := Lib.hid h6
  clear h4 h5 h6
  go_wp2_with fail
  go_ret
  exact ⟨rfl, RdStep.of_new H4.out H6.out⟩

theorem rd_short_yes (base g : Nat) (v : Value) (bs : List Nat) (at_ V K : Nat) (w : World) (hR : Rd w base g v bs at_ 0) (hx : ∀ x ∈ bs, x < 256) (hlen : bs.length ≤ 140737488355328) (hrs : rs (bs.drop at_) = (V, K, 0)) (hK : at_ + K ≤ bs.length) :
    Calls Try.prog 46 #[.pointer (some ⟨g, 0, none⟩)] w fun en w' => en = .returned (.int .i64 (V : Int)) ∧ RdStep base g v bs (at_ + K, 0) w w' := by
  have h := rd_short base g v bs at_ 0 w hR hx hlen (by rw [hrs]; exact hK)
  rw [hrs] at h
  exact h
theorem rd_short_no (base g : Nat) (v : Value) (bs : List Nat) (at_ E : Nat) (w : World) (hR : Rd w base g v bs at_ 0) (hx : ∀ x ∈ bs, x < 256) (hlen : bs.length ≤ 140737488355328) (hrs : rs (bs.drop at_) = (0, 0, E)) (hE : E ≠ 0) :
    Calls Try.prog 46 #[.pointer (some ⟨g, 0, none⟩)] w fun en w' => en = .returned (.int .i64 0) ∧ RdStep base g v bs (at_, (E : Int)) w w' := by
  have h := rd_short base g v bs at_ 0 w hR hx hlen (by rw [hrs]; exact hR.2.2)
  rw [hrs] at h
  have hs : stepR at_ 0 0 E = (at_, (E : Int)) := by unfold stepR; rw [if_pos rfl, if_neg hE]
  rw [hs] at h
  exact h
theorem rd_short_err (base g : Nat) (v : Value) (bs : List Nat) (at_ : Nat) (e : Int) (w : World) (hR : Rd w base g v bs at_ e) (hx : ∀ x ∈ bs, x < 256) (hlen : bs.length ≤ 140737488355328) (hN : at_ + (rs (bs.drop at_)).2.1 ≤ bs.length) (he : e ≠ 0) :
    Calls Try.prog 46 #[.pointer (some ⟨g, 0, none⟩)] w fun en w' => en = .returned (.int .i64 0) ∧ RdStep base g v bs (at_, e) w w' := by
  have h := rd_short base g v bs at_ e w hR hx hlen hN
  have hs : stepR at_ e (rs (bs.drop at_)).2.1 (rs (bs.drop at_)).2.2 = (at_, e) := by unfold stepR; rw [if_neg he]
  have ho : orZ e ((rs (bs.drop at_)).1 : Int) = 0 := by unfold orZ; rw [if_neg he]
  rw [hs, ho] at h
  exact h

theorem cell_at {w : World} {base g at_ : Nat} {v : Value} {bs : List Nat} {e : Int} (h : Rd w base g v bs at_ e) : w.cell? ⟨g, 0, none⟩ = some v ∧ w.cell? ⟨g, 1, none⟩ = some (.int .i64 (at_ : Int)) ∧ w.cell? ⟨g, 2, none⟩ = some (.int .i64 e) ∧ w.frozen? ⟨g, 2, none⟩ = false :=
  ⟨by rw [h.1.cell]; rfl, by rw [h.1.cell]; rfl, by rw [h.1.cell]; rfl, h.1.frozen 2⟩

theorem rd_left (base g : Nat) (v : Value) (bs : List Nat) (at_ : Nat) (e : Int) (w : World) (hR : Rd w base g v bs at_ e) (hlen : bs.length ≤ 140737488355328) :
    Calls Try.prog 83 #[.pointer (some ⟨g, 0, none⟩)] w fun en w' => en = .returned (.int .i64 ((bs.length : Int) - (at_ : Int))) ∧ ∃ k, w' = w.drewN k := by
  obtain ⟨h0, h1, _, _⟩ := cell_at hR
  have hle := hR.2.2
  obtain ⟨A, c, rfl, hc⟩ := hR.slice_
  clear hR
  go_enter Try.func83, Try.ntmps83
  go_wp2_with fail
  go_quiet (fail)
  go_wp2_with fail
  go_ret
  exact ⟨rfl, _, rfl⟩

theorem rd_fail (base g : Nat) (v : Value) (bs : List Nat) (at_ : Nat) (e e' : Int) (w : World) (hR : Rd w base g v bs at_ e) :
    Calls Try.prog 84 #[.pointer (some ⟨g, 0, none⟩), .int .i64 e'] w fun en w' => en = .returned (.tuple #[]) ∧ RdStep base g v bs (at_, if e = 0 then e' else e) w w' := by
  obtain ⟨_, _, h2, f2⟩ := cell_at hR
  have HR := Lib.hid hR
  clear hR
  by_cases he : e = 0
  · subst he
    rw [if_pos rfl]
    go_enter Try.func84, Try.ntmps84
    go_wp2_with fail
    go_end0
    have h7 := (Fr.refl (fun i => i = g) w).setCell (p := ⟨g, 2, none⟩) (.inl rfl) (.int .i64 e')
    exact ⟨rfl, ⟨by simpa using HR.out.1.set_ 2 (.int .i64 e'), h7.own HR.out.2.1 (fun i hi hc => HR.out.ne (by rw [hi, hc])), HR.out.2.2⟩, h7⟩
  · rw [if_neg he]
    have he' : (e == 0) = false := by simpa using he
    clear he
    go_enter Try.func84, Try.ntmps84
    go_wp2_with fail
    go_end0
    exact ⟨rfl, HR.out, Fr.refl _ _⟩
end
end Go.Proofs.Ytmjbfobjndiecaa
