
/-
  The walk of FairEach.
-/
import Derived.Test.YtgongcbbbhdjeaaRows
import Derived.WalkKit
import Derived.ProofKit
import Derived.OpenShut
import Derived.ShutString
import Derived.ChangeOld
import Derived.Below
import Derived.Test.YtgongcbbbhdjeaaFrE
namespace Go.Proofs.Ytgongcbbbhdjeaa.fairEach
open Go.ChangeShapes Go.WideShapes Go.ChangeAt Go.RowKit Go.Proofs.Ytgongcbbbhdjeaa Go.Proofs.Ytgongcbbbhdjeaa.Plain
open Go.ChangeMaps (open_string shut_string)
set_option linter.unusedVariables false


attribute [local go_sem] Oper.semAt_some
theorem add_zero_cell (W : World) (t : TypeId) (x : Value) : ∀ j u, [x][j]? = some u → (W.alloc (.cells #[x] t)).cell? ((⟨W.heap.size, 0, none⟩ : Addr).add j) = some u := by
  intro j u hj
  match j, hj with
  | 0, hj => simp at hj; subst hj; simp [Addr.add]
def IV (x : Nat) : Int := (x : Int)
/-- Where the law's range stands: the number asked for is kept in its box, the places that came are in a row of their own. -/
structure EaI (w w4 : World) (b10 m : Nat) (pre : List Nat) (W : World) : Prop where
  kp : KpB b10 w4 W
  got : ∃ v, Blk W b10 22 #[v] ∧ OwnI W (b10 + 1) v (pre.map IV)
  le : pre.length ≤ m
  be : Below w.heap.size w W
theorem EaI.keeps {w w4 W W' : World} {b10 m : Nat} {pre : List Nat} (h : EaI w w4 b10 m pre W) (hb : w.heap.size ≤ b10 + 1) {row : Option Nat} (hg : W.grownBy W' row) (hr : ∀ r, row = some r → b10 + 1 ≤ r ∧ ∃ o : Obj, W.heap[r]? = some o ∧ o.isCells = false) : EaI w w4 b10 m pre W' := by
  obtain ⟨v, h1, h2⟩ := h.got
  have hz := h1.lt
  exact ⟨h.kp.trans fun i hi => hg.block i (by omega) (fun e => by have := (hr i e.symm).1; omega), ⟨v, h1.grown hg (fun e => by have := (hr b10 e.symm).1; omega), own_keeps h2 hg (fun r e => (hr r e).2)⟩, h.le, h.be.grown hg (by have := h.be.size; omega) (fun k e => by have := (hr k e).1; omega)⟩
theorem EaI.more {w w4 W w5 : World} {b10 m k : Nat} {pre : List Nat} {v v' : Value} {x : Nat} (hI : EaI w w4 b10 m pre W) (hb10 : Blk W b10 22 #[v]) (hown : W.ownsRow (b10 + 1) 3 1 v k ((pre.map IV).map EnI)) (hk : pre.length = k) (hlt : k < m) (hw : w.heap.size ≤ b10)
    (h5 : w5.ownsRow (b10 + 1) 3 1 v' (k + 1) ((pre.map IV).map EnI ++ [.int .i64 (x : Int)])) (hg : (W.alloc (.cells #[.int .i64 (x : Int)] 3)).grownBy w5 v.ownBlock) :
    KeepsFrom (b10 + 1) W (w5.setCell ⟨b10, 0, none⟩ v') ∧ KpB b10 W (w5.setCell ⟨b10, 0, none⟩ v') ∧ EaI w w4 b10 m (pre ++ [x]) (w5.setCell ⟨b10, 0, none⟩ v') := by
  have f5 : Fr (fun i => v.ownBlock = some i) W w5 := ((Fr.refl (fun i => v.ownBlock = some i) W).alloc (.cells #[.int .i64 (x : Int)] 3)).trans (Fr.of_grown hg) (fun _ _ h => h)
  have hge : ∀ i, v.ownBlock = some i → b10 + 1 ≤ i := fun i e => (hown.lt i e).1
  have f6 : Fr (fun i => v.ownBlock = some i ∨ i = b10) W (w5.setCell ⟨b10, 0, none⟩ v') := (f5.mono (fun i _ h => .inl h)).setCell (p := ⟨b10, 0, none⟩) (.inl (.inr rfl)) v'
  have hz := hb10.lt
  have k6 : KpB b10 W (w5.setCell ⟨b10, 0, none⟩ v') := KpB.of_fr f6 (by omega) (fun i hi => by
    rcases hi with hi | hi
    · have := hge i hi; omega
    · omega)
  refine ⟨⟨f6.size, fun j o hj ho hc => (f6.block j (Array.getElem?_eq_some_iff.1 ho).1 (fun e => ?_)).trans ho⟩, k6, ⟨hI.kp.trans k6, ⟨v', ?_, ?_⟩, by simp; omega, hI.be.trans (f6.below hI.be.size (fun i hi => by
    rcases hi with hi | hi
    · have := hge i hi; omega
    · omega))⟩⟩
  · rcases e with e | e
    · rcases hown.2 with ⟨rfl, _⟩ | ⟨g, cap, cur, rfl, _, hh, _⟩
      · simp [Value.ownBlock] at e
      · simp [Value.ownBlock] at e
        subst e
        rw [hh] at ho
        cases ho
        simp [Obj.isCells] at hc
    · omega
  · have h7 := (f5.blk hb10 (fun e => by have := hge _ e; omega)).set_ 0 v'
    simpa using h7
  · have hlen : ((pre ++ [x]).map IV).length = k + 1 := by simp [hk]
    unfold OwnI
    rw [hlen]
    have := (Fr.refl (fun i => i = b10) w5).setCell (p := ⟨b10, 0, none⟩) (.inl rfl) v'
    have h8 := this.own h5 (fun i hi e => by have := (h5.lt i hi).1; omega)
    simpa [IV] using h8
set_option maxRecDepth 100000 in
set_option maxHeartbeats 40000000 in
theorem walk (a0 : Option Addr) (len0 cap0 : Nat) (z0 : List Int) (a1 : Int) (a2 : Int) (w : World) (w0 : IsRow .i64 w a0 len0 cap0 z0) (w1 : (Lit.int .i64 a1).wf = true) (w2 : (Lit.int .i64 a2).wf = true) :
    Calls Try.prog 8 #[.slice a0 len0 cap0, .int .i64 a1, .int .i64 a2] w fun e w' => e = .returned (.bool true) ∧ Below w.heap.size w w' := by
  obtain ⟨l0, hl0, hR0, hfit, hc, hn⟩ := row_int w0
  have hA : a0 = none → len0 = 0 ∧ cap0 = 0 := by
    rcases w0 with ⟨_, h1, h2, _⟩ | ⟨x, h, _⟩
    · exact fun _ => ⟨h1, h2⟩
    · intro e
      rw [h] at e
      cases e
  have ba := wf_i64 w1
  have bb := wf_i64 w2
  obtain ⟨N, hN⟩ : ∃ N, N = min len0 30 := ⟨_, rfl⟩
  have hA2 : a0 = none → N = 0 ∧ cap0 = 0 := fun e => by have := hA e; omega
  have hR := hR0.few (m := N) (by omega)
  have hl : (l0.take N).length = N := by simp; omega
  generalize l0.take N = l at hR hl
  have hfew := fun W => few_any W a0 len0 cap0 30 hc hn (by omega)
  rw [← hN] at hfew
  have hmany := many_any a1
  have heach := fun W BB hr hBB => each_any W BB a0 N cap0 l hr hl hA2 (by omega) hBB a1 ba.1 ba.2
  have hal := aroundV_lt (n := a2) (m := 31) (by omega)
  have har := fun W => around_any a2 31 W bb.1 bb.2 (by omega) (by omega)
  obtain ⟨m, hm⟩ := Int.eq_ofNat_of_zero_le hal.1
  rw [hm] at har hal
  have hm31 : m < 31 := by omega
  have hM1 := manyV_pos a1
  have hM2 := manyV_le a1
  generalize manyV a1 = M at *
  have hN30 : N ≤ 30 := by omega
  have HF := Lib.hid hfew; have HM := Lib.hid hmany; have HE := Lib.hid heach; have HA := Lib.hid har; have HR := Lib.hid hR; have HL := Lib.hid hl
  clear hfew hmany heach har hR hR0 hl hfit w0 w1 w2 ba bb hN hl0 hc hn hA hA2 hal hm
  obtain ⟨i0, hi0, hz0, hz1, hz2⟩ := info_parts info_int
  refine (callsIn_wide (n := 3)).1 ?_
  refine callsIn_of_wp_marks Try.func8 rfl trivial ?_ rfl
  simp only [Try.ntmps8, List.size_toArray, List.length_cons, List.length_nil, Nat.reduceAdd, Nat.reduceSub, Array.replicate_succ, Array.replicate_zero, List.push_toArray, List.append_toArray, List.nil_append, List.cons_append]
  refine wpIn_wide.2 ?_
  go_wp2_with fail
  refine (HF.out _).mono ?_
  rintro e w' ⟨rfl, rfl⟩
  clear HF
  go_wp2_with fail
  obtain ⟨W0, hW0⟩ : ∃ W0, W0 = w.alloc (.cells #[.int .i64 a2] 3) := ⟨_, rfl⟩
  have hb5 : Blk W0 w.heap.size 3 #[.int .i64 a2] := by rw [hW0]; exact Blk.new _ _ _
  have hbe0 : Below w.heap.size w W0 := by rw [hW0]; exact (Below.refl _ _).alloc (Nat.le_refl _) _
  have hz0' : W0.heap.size = w.heap.size + 1 := by rw [hW0]; simp
  rw [← hW0]
  have HB5 := Lib.hid hb5; have HBE0 := Lib.hid hbe0
  clear hW0 hb5 hbe0
  go_loopw [7, 8] (fun s7 s8 wr => ∃ (v : Value) (i : Nat), v = s7 ∧ i ≤ N ∧ s8 = .int .i64 (i : Int) ∧ Hid (OwnI wr W0.heap.size v ((placesV l M i).map IV)) ∧ Hid (Below W0.heap.size W0 wr)) (fun _ s8 _ => N - (intOf s8).toNat)
  case atStart => exact ⟨_, 0, rfl, by omega, rfl, Lib.hid (OwnI.nil _ _), Lib.hid (Below.refl _ _)⟩
  case round =>
    obtain ⟨v, i, hv7, hi, rfl, HO, HB⟩ := hrel
    subst hv7
    have hzr := HB.out.size
    by_cases hlt : i < N
    · have hrr := HR.out.below ((HBE0.out).trans (HB.out.mono (by omega)))
      obtain ⟨ad, x, rfl, hab, hx, hcx⟩ := hrr.num (k := i) hlt
      have hgx : gi l i = x := by unfold gi; rw [hx]; rfl
      have q0 : (i : Int) < (N : Int) := by omega
      have q2 : (0 : Int) ≤ (i : Int) := by omega
      have hmn : ∀ n, Calls Try.prog 17 #[.int .i64 a1] (wr.drewN n) fun e w' => e = .returned (.int .i64 (M : Int)) ∧ ∃ m, w' = wr.drewN m := fun n =>
        (HM.out _).mono fun e w' h => ⟨h.1, n, h.2⟩
      have HMN := Lib.hid hmn
      clear hmn hrr hx
      by_cases hx0 : 0 ≤ x
      · have d0 : decide (0 ≤ x) = true := by simpa using hx0
        by_cases hxM : x < (M : Int)
        · have e1 := placesV_yes (l := l) (M := M) (k := i) (by rw [hgx]; exact isW_iff.2 ⟨hx0, hxM⟩)
          have d1 : decide (x < (M : Int)) = true := by simpa using hxM
          have hpl := placesV_len l M i
          have HE1 := Lib.hid e1
          clear e1 hgx
          go_wp2_with fail
          go_quiet (first | (go_at_call 17; exact HMN.out _))
          have hpz : ((placesV l M i).map IV).length = (placesV l M i).length := by simp
          have ho2 := HO.out
          unfold OwnI at ho2
          rw [hpz] at ho2
          have HO2 := Lib.hid ho2
          clear ho2 hpz HO
          generalize hpk : (placesV l M i).length = k at hpl HO2
          have HPK := Lib.hid hpk
          clear hpk
          go_wp2_with (at_builtin; go_must (refine wpList_append_any _ rfl (.tmp 34) (.tmp 36) _ rfl W0.heap.size 3 i0 _ 1 8 Try.underlying22 hi0 hz0 hz1 hz2 rfl (by decide) v k ((placesV l M i).map (fun z => EnI (IV z))) rfl (by have := (HO2.out); rw [List.map_map] at this; exact (Fr.refl (fun _ => False) _ |>.drewN nq |>.alloc _).own this (fun _ _ h => h)) _ _ 1 1 [.int .i64 (i : Int)] rfl (reads_one_int _ _ _) ?f0 ?f1 ?f2 ?f3 ?f4))
          case f0 => simp [Value.oneCell']
          case f1 => unfold maxLen; omega
          case f2 => omega
          case f3 => simp; omega
          case f4 =>
          intro v2 w6 hown6 hgr hat
          clear hat
          go_wp2_with fail
          have ho7 : OwnI w6 W0.heap.size v2 ((placesV l M (i + 1)).map IV) := by
            unfold OwnI
            rw [HE1.out]
            have h6 := hown6
            rw [show k + 1 = ((placesV l M i ++ [i]).map IV).length by simp [HPK.out]] at h6
            simpa [IV, Function.comp_def, hz0'] using h6
          have hb7 : Below W0.heap.size W0 w6 := ((below_drews HB.out nq).alloc (by simp; omega) _).grown hgr (by simp; omega) (fun r hr => (HO2.out.lt r hr).1)
          exact ⟨⟨_, i + 1, rfl, by omega, by go_num, Lib.hid ho7, Lib.hid hb7⟩, by simp [intOf]; omega⟩
        · have e1 := placesV_no (l := l) (M := M) (k := i) (by rw [hgx]; simp [isW]; omega)
          have d1 : decide (x < (M : Int)) = false := by simpa using hxM
          have HO2 := Lib.hid (e1 ▸ HO.out)
          clear e1 hgx
          go_wp2_with fail
          go_quiet (first | (go_at_call 17; exact HMN.out _))
          go_wp2_with fail
          exact ⟨⟨_, i + 1, rfl, by omega, by go_num, Lib.hid HO2.out, Lib.hid (below_drews HB.out _)⟩, by simp [intOf]; omega⟩
      · have d0 : decide (0 ≤ x) = false := by simpa using hx0
        have e1 := placesV_no (l := l) (M := M) (k := i) (by rw [hgx]; simp [isW]; omega)
        have HO2 := Lib.hid (e1 ▸ HO.out)
        clear e1 hgx
        go_wp2_with fail
        go_quiet (fail)
        go_wp2_with fail
        exact ⟨⟨_, i + 1, rfl, by omega, by go_num, Lib.hid HO2.out, Lib.hid (below_drews HB.out _)⟩, by simp [intOf]; omega⟩
    · have hiN : N = i := by omega
      subst hiN
      have hnil := fun (W : World) (caps : Array Value) => (by kernel_rfl : (binOp .eql 33 (.func (.func 32) #[] caps) .nilFunc).run Try.prog W = Result.ok (.bool false) W)
      have hbw := (HBE0.out).trans (HB.out.mono (by omega))
      have hea := HE.out wr w.heap.size (HR.out.below hbw) hbw.size
      have hk5 := HB5.out.below HB.out (by omega)
      have HB5r := Lib.hid hk5
      clear hk5
      have HEA := Lib.hid hea; have HBW := Lib.hid hbw
      clear hea hbw HE HM
      go_wp2_with fail
      refine HEA.out.mono ?_
      rintro e w3 ⟨bx, A', c', rfl, k0, k1, k2, k3, k4, k5, k6⟩
      have h5 := HB5r.out.below k5 (by omega)
      have c5 : w3.cell? ⟨w.heap.size, 0, none⟩ = some (.int .i64 a2) := (h5.cell 0).trans rfl
      have z5 : w3.frozen? ⟨w.heap.size, 0, none⟩ = false := h5.frozen 0
      have hw3 := HBW.out.trans (k5.mono (show w.heap.size ≤ wr.heap.size by omega))
      have K0 := Lib.hid k0; have K1 := Lib.hid k1; have K2 := Lib.hid k2; have K5 := Lib.hid k5; have H5 := Lib.hid h5; have HW3 := Lib.hid hw3
      clear k0 k1 k2 k5 h5 hw3 HB5r HEA
      go_wp2_with fail
      refine (HA.out _).mono ?_
      rintro e w' ⟨rfl, hw'⟩
      subst hw'
      go_wp2_with fail
      have hf4 : Fr (fun i => i = w.heap.size) w3 ((w3.setCell ⟨w.heap.size, 0, none⟩ (.int .i64 (m : Int))).alloc (.cells #[.slice none 0 0] 22)) := ((Fr.refl (fun i => i = w.heap.size) w3).setCell (p := ⟨w.heap.size, 0, none⟩) (.inl rfl) _).alloc _
      have g5 : Blk ((w3.setCell ⟨w.heap.size, 0, none⟩ (.int .i64 (m : Int))).alloc (.cells #[.slice none 0 0] 22)) w.heap.size 3 #[.int .i64 (m : Int)] := by
        have := (H5.out.set_ 0 (.int .i64 (m : Int))).alloc (.cells #[.slice none 0 0] 22)
        simpa using this
      have g10 : Blk ((w3.setCell ⟨w.heap.size, 0, none⟩ (.int .i64 (m : Int))).alloc (.cells #[.slice none 0 0] 22)) (bx + 1 + 1) 22 #[.slice none 0 0] := by
        have := Blk.new (w3.setCell ⟨w.heap.size, 0, none⟩ (.int .i64 (m : Int))) 22 #[.slice none 0 0]
        rw [show (w3.setCell ⟨w.heap.size, 0, none⟩ (.int .i64 (m : Int))).heap.size = bx + 1 + 1 by simp; exact k4] at this
        exact this
      have hVs : ((w3.setCell ⟨w.heap.size, 0, none⟩ (.int .i64 (m : Int))).alloc (.cells #[.slice none 0 0] 22)).heap.size = bx + 1 + 1 + 1 := by simp; exact k4
      have hbx : w.heap.size + 1 ≤ wr.heap.size := by omega
      have e0 := hf4.blk K0.out (by omega)
      have e1 := hf4.blk K1.out (by omega)
      have e2 : Reads ((w3.setCell ⟨w.heap.size, 0, none⟩ (.int .i64 (m : Int))).alloc (.cells #[.slice none 0 0] 22)) bx 1 A' N (l.map EnI) := by
        refine ⟨K2.out.1, fun h0 => ?_⟩
        obtain ⟨ad, e, hb, hc⟩ := K2.out.2 h0
        have := k6 ad e
        exact ⟨ad, e, hb, fun j u hj => (hf4.cell (p := ad.add j) (by rw [block_of_add]; omega) (by rw [block_of_add]; omega)).trans (hc j u hj)⟩
      have eB := HW3.out.trans (hf4.below HW3.out.size (fun i hi => by omega))
      have eW : OwnI ((w3.setCell ⟨w.heap.size, 0, none⟩ (.int .i64 (m : Int))).alloc (.cells #[.slice none 0 0] 22)) W0.heap.size v ((placesV l M N).map IV) := by
        have q1 : OwnI w3 W0.heap.size v ((placesV l M N).map IV) := (Fr.of_below K5.out).own HO.out (fun i hi e => by have := (HO.out.lt i hi).2; omega)
        exact hf4.own q1 (fun i hi e => by have := (q1.lt i hi).1; omega)
      have hI0 : EaI w ((w3.setCell ⟨w.heap.size, 0, none⟩ (.int .i64 (m : Int))).alloc (.cells #[.slice none 0 0] 22)) (bx + 1 + 1) m [] ((w3.setCell ⟨w.heap.size, 0, none⟩ (.int .i64 (m : Int))).alloc (.cells #[.slice none 0 0] 22)) := ⟨KpB.refl _ _, ⟨_, g10, OwnI.nil _ _⟩, by simp, eB⟩
      have eWl : ∀ ad c n, v = .slice (some ad) n c → ad.block < bx + 1 + 1 := by
        intro ad c n e
        have := (HO.out.lt ad.block (by rw [e]; rfl)).2
        omega
      generalize ((w3.setCell ⟨w.heap.size, 0, none⟩ (.int .i64 (m : Int))).alloc (.cells #[.slice none 0 0] 22)) = V at hf4 g5 g10 hVs e0 e1 e2 eB eW hI0 ⊢
      have E0 := Lib.hid e0; have E1 := Lib.hid e1; have E2 := Lib.hid e2; have EW := Lib.hid eW; have EWL := Lib.hid eWl; have G5 := Lib.hid g5; have HI0 := Lib.hid hI0
      clear e0 e1 e2 eB eW g5 g10 hI0 K0 K1 K2 K5 H5 c5 z5 hf4
      refine (wpIn_wide (n := 3)).1 ?_
      refine wpIn_rangeFunc_ownG rfl (by omega) (gf := 32) (lb := #[.pointer (some ⟨bx, 0, none⟩), .pointer (some ⟨bx + 1, 0, none⟩)]) rfl trivial (enters_of Try.func32 (by kernel_rfl) rfl)
        (places_stops 2 (by omega) bx A' N c' M l HL.out (by omega) V E0.out E1.out E2.out (bx + 1 + 1) (by omega) (by omega)) KpB.trans (fun W lq o o' hle hl _ _ i hi => World.putObj_heap_other (by omega)) (Below.refl _ _) (fun _ => rfl)
        (fun pre W => EaI w V (bx + 1 + 1) m pre W)
        (fun cc pre W => cc = .exit 2 ∧ ∃ pre' x, pre = pre' ++ [x] ∧ EaI w V (bx + 1 + 1) m pre' W ∧ pre'.length = m)
        (fun s A B row hs hg hr => hs.keeps (by omega) hg (fun r e => ⟨by have := (hr r e).1; omega, (hr r e).2⟩))
        (fun cc s A B row hs hg hr => by
          obtain ⟨h1, pre', x, h2, h3, h4⟩ := hs
          exact ⟨h1, pre', x, h2, h3.keeps (by omega) hg (fun r e => ⟨by have := (hr r e).1; omega, (hr r e).2⟩), h4⟩)
        HI0.out
        (fun x => { tmps := #[.slice a0 N cap0, .int .i64 a1, .int .i64 a2, undef, undef, .pointer (some ⟨w.heap.size, 0, none⟩), .bool false, v, .int .i64 (N : Int), .func (.func 32) #[] #[.pointer (some ⟨bx, 0, none⟩), .pointer (some ⟨bx + 1, 0, none⟩)], .pointer (some ⟨bx + 1 + 1, 0, none⟩), .int .i64 (x : Int), .slice a0 len0 cap0, .slice a0 N cap0, .int .i64 (N : Int), .slice a0 N cap0, .int .i64 (N : Int), .bool false, u18, u19, u20, u21, u22, u23, u24, u25, u26, u27, u28, u29, u30, u31, u32, u33, u34, u35, u36, u37, .slice a0 N cap0, .int .i64 a1, .func (.func 32) #[] #[.pointer (some ⟨bx, 0, none⟩), .pointer (some ⟨bx + 1, 0, none⟩)], .func (.func 32) #[] #[.pointer (some ⟨bx, 0, none⟩), .pointer (some ⟨bx + 1, 0, none⟩)], .bool false, .int .i64 a2, .int .i64 (m : Int), .func (.func 32) #[] #[.pointer (some ⟨bx, 0, none⟩), .pointer (some ⟨bx + 1, 0, none⟩)], .int .i64 (x : Int), undef, undef, undef, undef, undef, undef, undef, undef, undef, undef, undef, undef, undef, undef, undef, undef, undef, undef, undef], defers := [] }) ?assign ?body ?done ?stop
      case assign =>
        intro lq x W K hK
        gi_wp2
        exact hK
      case body =>
        rintro lq pre x W hI hlen
        obtain ⟨vg, hb10, hown⟩ := hI.got
        obtain ⟨A3, c3, rfl, hc3, _⟩ := hown.slice
        have hpz : (pre.map IV).length = pre.length := by simp
        rw [hpz] at hb10 hown hc3
        have c5 : W.cell? ⟨w.heap.size, 0, none⟩ = some (.int .i64 (m : Int)) := (hI.kp.cell (p := ⟨w.heap.size, 0, none⟩) (by show w.heap.size < bx + 1 + 1; omega)).trans ((G5.out.cell 0).trans rfl)
        have c10 : W.cell? ⟨bx + 1 + 1, 0, none⟩ = some (.slice A3 pre.length c3) := (hb10.cell 0).trans rfl
        have z10 : W.frozen? ⟨bx + 1 + 1, 0, none⟩ = false := hb10.frozen 0
        have hle := hI.le
        have hWz := hb10.lt
        by_cases hm : pre.length = m
        · have hmb : ((pre.length : Int) == (m : Int)) = true := by simp; omega
          have HI := Lib.hid hI; have HMM := Lib.hid hm
          clear hI hb10 hown hc3 hm
          gi_wp2
          exact ⟨KeepsFrom.refl _ _, rfl, pre, x, rfl, HI.out, HMM.out⟩
        · have hmb : ((pre.length : Int) == (m : Int)) = false := by simp; omega
          have hle2 : pre.length + 1 ≤ m := by omega
          have ho2 := hown
          unfold OwnI at ho2
          rw [hpz] at ho2
          have HO3 := Lib.hid ho2; have HB10 := Lib.hid hb10; have HI := Lib.hid hI
          clear hI hb10 hown ho2 hm
          generalize hpk : pre.length = k at *
          have HPK := Lib.hid hpk
          clear hpk
          gi_wp2_with (gi_at_builtin; refine wpListIn_append_own_atF _ rfl _ _ 22 rfl (bx + 1 + 1 + 1) 3 i0 _ 1 8 Try.underlying22 hi0 hz0 hz1 hz2 rfl (by decide) _ _ _ rfl (HO3.out.alloc _) ⟨W.heap.size, 0, none⟩ 1 1 [.int .i64 (x : Int)] rfl rfl (cell_one_new _ _ _) (by simp [Value.oneCell']) (by unfold maxLen; omega) (by omega) (by simp; omega) ?_; intro v' w5 hown5 hg5 ha5; obtain ⟨g', cap', rfl⟩ := ownsRow_succ hown5; have h5' := (((Fr.refl (fun i => (Value.slice A3 k c3).ownBlock = some i) W).alloc (.cells #[.int .i64 (x : Int)] 3)).trans (Fr.of_grown hg5) (fun _ _ h => h)).blk HB10.out (fun e => by have := (HO3.out.lt _ e).1; omega); have x5' : w5.cell? ⟨bx + 1 + 1, 0, none⟩ = some (.slice A3 k c3) := (h5'.cell 0).trans rfl; have x5z' : w5.frozen? ⟨bx + 1 + 1, 0, none⟩ = false := h5'.frozen 0)
          have hfin := HI.out.more HB10.out HO3.out HPK.out (by omega) (by omega) (x := x) hown5 hg5
          rw [← hVs] at hfin
          exact hfin
      case done =>
        rintro D xs W hD rfl hI hK
        have hK2 : (placesV l M N).length ≤ m := hI.le
        have hI2 : EaI w V (bx + 1 + 1) m ((placesV l M N).take (min m (placesV l M N).length)) W := by
          rw [List.take_of_length_le (by omega)]
          exact hI
        clear hI hK2
        have hgot := hI2.got
        obtain ⟨vg, hb10, hown⟩ := hgot
        obtain ⟨A3, c3, rfl, hc3, hrg⟩ := hown.slice
        obtain ⟨Aw, cw, hv, hcw, hrw⟩ := EW.out.slice
        have hkl : ((placesV l M N).map IV).length = (placesV l M N).length := by simp
        rw [hkl] at hcw hrw hv
        subst hv
        have hpl := placesV_len l M N
        obtain ⟨T, hT⟩ : ∃ T, T = min m (placesV l M N).length := ⟨_, rfl⟩
        rw [← hT] at hI2 hb10 hown hc3 hrg
        have hlt : (((placesV l M N).take T).map IV).length = T := by simp; omega
        rw [hlt] at hb10 hc3 hrg
        have hmin := min2_int (m : Int) ((placesV l M N).length : Int)
        rw [show min (m : Int) ((placesV l M N).length : Int) = (T : Int) by omega] at hmin
        have hwz : bx + 1 + 1 < W.heap.size := hb10.lt
        have hKl : T ≤ (placesV l M N).length := by omega
        have hrwf := hrw.few (m := T) hKl
        have hrw2 : Reads W (bx + 1 + 1) 1 Aw T ((((placesV l M N).take T).map IV).map EnI) := by
          rw [← List.map_take] at hrwf
          refine ⟨hrwf.1, fun h0 => ?_⟩
          obtain ⟨ad, e, hb, hcc⟩ := hrwf.2 h0
          have := EWL.out ad cw _ (by rw [e])
          exact ⟨ad, e, this, fun j u hj => (hI2.kp.cell (p := ad.add j) (by rw [block_of_add]; exact this)).trans (hcc j u hj)⟩
        have hrg2 : Reads W W.heap.size 1 A3 T ((((placesV l M N).take T).map IV).map EnI) := hrg
        have c5 : W.cell? ⟨w.heap.size, 0, none⟩ = some (.int .i64 (m : Int)) := (hI2.kp.cell (p := ⟨w.heap.size, 0, none⟩) (by show w.heap.size < bx + 1 + 1; omega)).trans ((G5.out.cell 0).trans rfl)
        have c10 : W.cell? ⟨bx + 1 + 1, 0, none⟩ = some (.slice A3 T c3) := (hb10.cell 0).trans rfl
        have hS : ∀ W2, Below W.heap.size W W2 → W2.cell? ⟨w.heap.size, 0, none⟩ = some (.int .i64 (m : Int)) ∧ W2.cell? ⟨bx + 1 + 1, 0, none⟩ = some (.slice A3 T c3) := fun W2 hb =>
          ⟨(hb.cell (p := ⟨w.heap.size, 0, none⟩) (by show w.heap.size < W.heap.size; omega)).trans c5, (hb.cell (p := ⟨bx + 1 + 1, 0, none⟩) hwz).trans c10⟩
        have hsm : ∀ W2, Below W.heap.size W W2 → Calls Try.prog 26 #[.slice A3 T c3, .slice Aw T cw] W2 fun e w' => e = .returned (.bool true) ∧ (w'.cell? ⟨w.heap.size, 0, none⟩ = some (.int .i64 (m : Int)) ∧ w'.cell? ⟨bx + 1 + 1, 0, none⟩ = some (.slice A3 T c3)) ∧ Hid (Below W.heap.size W w') := fun W2 hb => by
          refine (sameInts_yes _ T hlt W2 _ _ A3 Aw c3 cw (hrg2.below hb) (hrw2.below (hb.mono (by omega))) (by omega)).mono ?_
          rintro e w' ⟨rfl, k, rfl⟩
          exact ⟨rfl, hS _ (below_drews hb k), Lib.hid (below_drews hb k)⟩
        have hlv : ∀ W2, Below W.heap.size W W2 → Calls Try.prog 15 #[] W2 fun e w' => e = .returned (.bool true) ∧ (w'.cell? ⟨w.heap.size, 0, none⟩ = some (.int .i64 (m : Int)) ∧ w'.cell? ⟨bx + 1 + 1, 0, none⟩ = some (.slice A3 T c3)) ∧ Hid (Below W.heap.size W w') := fun W2 hb => by
          refine (lives_fr W2).mono ?_
          rintro e w' ⟨rfl, hb2⟩
          have hb3 := hb.trans (hb2.mono hb.size)
          exact ⟨rfl, hS _ hb3, Lib.hid hb3⟩
        have hbe := hI2.be
        have q0 : (0 : Int) ≤ (T : Int) := by omega
        have q1 : (T : Int) ≤ (cw : Int) := by omega
        have q2 : T ≤ cw := by omega
        have q3 : (T : Int) ≤ ((placesV l M N).length : Int) := by omega
        have hsd := hS _ (below_drews (Below.refl _ _) 1)
        have HSM := Lib.hid hsm; have HLV := Lib.hid hlv; have HBE := Lib.hid hbe; have HK := Lib.hid hK
        generalize hKK : (placesV l M N).length = KK at *
        clear hI2 hb10 hown hrg hrw hkl hrwf hrw2 hrg2 hS hsm hlv hbe hK HI0 hlt hKK
        clear hmin
        rcases Nat.lt_or_ge KK m with hmk | hmk
        · have hTK : T = KK := by omega
          subst hTK
          have i1 : (T : Int) < (m : Int) := by omega
          clear hT
          go_wp2_with fail
          go_region_held3 (fun w' => w'.cell? ⟨w.heap.size, 0, none⟩ = some (.int .i64 (m : Int)) ∧ w'.cell? ⟨bx + 1 + 1, 0, none⟩ = some (.slice A3 T c3))
            (first | with_reducible exact hsd | with_reducible exact ⟨c5, c10⟩ | with_reducible exact G3 | with_reducible exact G4 | go_keep)
            (first
              | (go_simp; with_reducible refine (HSM.out _ (by first | with_reducible exact Below.refl _ _ | exact (Below.refl _ _).drew | exact below_drews (Below.refl _ _) _)).mono ?_
                 rintro e w4 ⟨rfl, G3, HB4⟩)
              | (go_simp; with_reducible refine (HLV.out _ (by first | exact HB4.out | exact HB4.out.drew | exact below_drews HB4.out _)).mono ?_
                 rintro e w5 ⟨rfl, G4, HB6⟩))
          all_goals
            go_wp2_with fail
            have hDl := (Array.getElem?_eq_some_iff.1 HK.out).1
            have hKD := (HB6.out.block D hDl).trans HK.out
            have hB7 := HBE.out.trans (HB6.out.mono HBE.out.size)
            refine ⟨by simp, .inl ⟨_, _, rfl, run_takeDeferred hKD, ?_⟩⟩
            exact ⟨_, results_tmp rfl _ _ _, rfl, hB7.trans ((putObj_frF (w := V) w5 D _ (by omega)).below hB7.size (fun i hi => by omega))⟩
        · have hTK : T = m := by omega
          subst hTK
          have i1 : ((KK : Int) < (T : Int)) = False := by simp; omega
          have i2 : (KK < T) = False := by simp; omega
          clear hT
          go_wp2_with fail
          go_region_held3 (fun w' => w'.cell? ⟨w.heap.size, 0, none⟩ = some (.int .i64 (T : Int)) ∧ w'.cell? ⟨bx + 1 + 1, 0, none⟩ = some (.slice A3 T c3))
            (first | with_reducible exact hsd | with_reducible exact ⟨c5, c10⟩ | with_reducible exact G3 | with_reducible exact G4 | go_keep)
            (first
              | (go_simp; with_reducible refine (HSM.out _ (by first | with_reducible exact Below.refl _ _ | exact (Below.refl _ _).drew | exact below_drews (Below.refl _ _) _)).mono ?_
                 rintro e w4 ⟨rfl, G3, HB4⟩)
              | (go_simp; with_reducible refine (HLV.out _ (by first | exact HB4.out | exact HB4.out.drew | exact below_drews HB4.out _)).mono ?_
                 rintro e w5 ⟨rfl, G4, HB6⟩))
          all_goals
            go_wp2_with fail
            have hDl := (Array.getElem?_eq_some_iff.1 HK.out).1
            have hKD := (HB6.out.block D hDl).trans HK.out
            have hB7 := HBE.out.trans (HB6.out.mono HBE.out.size)
            refine ⟨by simp, .inl ⟨_, _, rfl, run_takeDeferred hKD, ?_⟩⟩
            exact ⟨_, results_tmp rfl _ _ _, rfl, hB7.trans ((putObj_frF (w := V) w5 D _ (by omega)).below hB7.size (fun i hi => by omega))⟩
      case stop =>
        rintro D cc pre W hD ⟨k, hk, rfl⟩ ⟨rfl, pre', x, hpre, hI, hm⟩ hK
        have hI2 : EaI w V (bx + 1 + 1) m ((placesV l M N).take (min m (placesV l M N).length)) W := by
          have := placesV_pre l M (show k + 1 ≤ N by omega)
          obtain ⟨r, hr⟩ := this
          rw [hr, hpre, List.append_assoc, Nat.min_eq_left (by simp; omega), ← hm, List.take_left]
          rw [hm]
          exact hI
        clear hI hpre hm hk
        have hgot := hI2.got
        obtain ⟨vg, hb10, hown⟩ := hgot
        obtain ⟨A3, c3, rfl, hc3, hrg⟩ := hown.slice
        obtain ⟨Aw, cw, hv, hcw, hrw⟩ := EW.out.slice
        have hkl : ((placesV l M N).map IV).length = (placesV l M N).length := by simp
        rw [hkl] at hcw hrw hv
        subst hv
        have hpl := placesV_len l M N
        obtain ⟨T, hT⟩ : ∃ T, T = min m (placesV l M N).length := ⟨_, rfl⟩
        rw [← hT] at hI2 hb10 hown hc3 hrg
        have hlt : (((placesV l M N).take T).map IV).length = T := by simp; omega
        rw [hlt] at hb10 hc3 hrg
        have hmin := min2_int (m : Int) ((placesV l M N).length : Int)
        rw [show min (m : Int) ((placesV l M N).length : Int) = (T : Int) by omega] at hmin
        have hwz : bx + 1 + 1 < W.heap.size := hb10.lt
        have hKl : T ≤ (placesV l M N).length := by omega
        have hrwf := hrw.few (m := T) hKl
        have hrw2 : Reads W (bx + 1 + 1) 1 Aw T ((((placesV l M N).take T).map IV).map EnI) := by
          rw [← List.map_take] at hrwf
          refine ⟨hrwf.1, fun h0 => ?_⟩
          obtain ⟨ad, e, hb, hcc⟩ := hrwf.2 h0
          have := EWL.out ad cw _ (by rw [e])
          exact ⟨ad, e, this, fun j u hj => (hI2.kp.cell (p := ad.add j) (by rw [block_of_add]; exact this)).trans (hcc j u hj)⟩
        have hrg2 : Reads W W.heap.size 1 A3 T ((((placesV l M N).take T).map IV).map EnI) := hrg
        have c5 : W.cell? ⟨w.heap.size, 0, none⟩ = some (.int .i64 (m : Int)) := (hI2.kp.cell (p := ⟨w.heap.size, 0, none⟩) (by show w.heap.size < bx + 1 + 1; omega)).trans ((G5.out.cell 0).trans rfl)
        have c10 : W.cell? ⟨bx + 1 + 1, 0, none⟩ = some (.slice A3 T c3) := (hb10.cell 0).trans rfl
        have hS : ∀ W2, Below W.heap.size W W2 → W2.cell? ⟨w.heap.size, 0, none⟩ = some (.int .i64 (m : Int)) ∧ W2.cell? ⟨bx + 1 + 1, 0, none⟩ = some (.slice A3 T c3) := fun W2 hb =>
          ⟨(hb.cell (p := ⟨w.heap.size, 0, none⟩) (by show w.heap.size < W.heap.size; omega)).trans c5, (hb.cell (p := ⟨bx + 1 + 1, 0, none⟩) hwz).trans c10⟩
        have hsm : ∀ W2, Below W.heap.size W W2 → Calls Try.prog 26 #[.slice A3 T c3, .slice Aw T cw] W2 fun e w' => e = .returned (.bool true) ∧ (w'.cell? ⟨w.heap.size, 0, none⟩ = some (.int .i64 (m : Int)) ∧ w'.cell? ⟨bx + 1 + 1, 0, none⟩ = some (.slice A3 T c3)) ∧ Hid (Below W.heap.size W w') := fun W2 hb => by
          refine (sameInts_yes _ T hlt W2 _ _ A3 Aw c3 cw (hrg2.below hb) (hrw2.below (hb.mono (by omega))) (by omega)).mono ?_
          rintro e w' ⟨rfl, k, rfl⟩
          exact ⟨rfl, hS _ (below_drews hb k), Lib.hid (below_drews hb k)⟩
        have hlv : ∀ W2, Below W.heap.size W W2 → Calls Try.prog 15 #[] W2 fun e w' => e = .returned (.bool true) ∧ (w'.cell? ⟨w.heap.size, 0, none⟩ = some (.int .i64 (m : Int)) ∧ w'.cell? ⟨bx + 1 + 1, 0, none⟩ = some (.slice A3 T c3)) ∧ Hid (Below W.heap.size W w') := fun W2 hb => by
          refine (lives_fr W2).mono ?_
          rintro e w' ⟨rfl, hb2⟩
          have hb3 := hb.trans (hb2.mono hb.size)
          exact ⟨rfl, hS _ hb3, Lib.hid hb3⟩
        have hbe := hI2.be
        have q0 : (0 : Int) ≤ (T : Int) := by omega
        have q1 : (T : Int) ≤ (cw : Int) := by omega
        have q2 : T ≤ cw := by omega
        have q3 : (T : Int) ≤ ((placesV l M N).length : Int) := by omega
        have hsd := hS _ (below_drews (Below.refl _ _) 1)
        have HSM := Lib.hid hsm; have HLV := Lib.hid hlv; have HBE := Lib.hid hbe; have HK := Lib.hid hK
        generalize hKK : (placesV l M N).length = KK at *
        clear hI2 hb10 hown hrg hrw hkl hrwf hrw2 hrg2 hS hsm hlv hbe hK HI0 hlt hKK
        refine wpIn_wide.2 ?_
        clear hmin
        rcases Nat.lt_or_ge KK m with hmk | hmk
        · have hTK : T = KK := by omega
          subst hTK
          have i1 : (T : Int) < (m : Int) := by omega
          clear hT
          go_wp2_with fail
          go_region_held3 (fun w' => w'.cell? ⟨w.heap.size, 0, none⟩ = some (.int .i64 (m : Int)) ∧ w'.cell? ⟨bx + 1 + 1, 0, none⟩ = some (.slice A3 T c3))
            (first | with_reducible exact hsd | with_reducible exact ⟨c5, c10⟩ | with_reducible exact G3 | with_reducible exact G4 | go_keep)
            (first
              | (go_simp; with_reducible refine (HSM.out _ (by first | with_reducible exact Below.refl _ _ | exact (Below.refl _ _).drew | exact below_drews (Below.refl _ _) _)).mono ?_
                 rintro e w4 ⟨rfl, G3, HB4⟩)
              | (go_simp; with_reducible refine (HLV.out _ (by first | exact HB4.out | exact HB4.out.drew | exact below_drews HB4.out _)).mono ?_
                 rintro e w5 ⟨rfl, G4, HB6⟩))
          all_goals
            go_wp2_with fail
            have hDl := (Array.getElem?_eq_some_iff.1 HK.out).1
            have hKD := (HB6.out.block D hDl).trans HK.out
            have hB7 := HBE.out.trans (HB6.out.mono HBE.out.size)
            refine ⟨by simp, .inl ⟨_, _, rfl, run_takeDeferred hKD, ?_⟩⟩
            exact ⟨_, results_tmp rfl _ _ _, rfl, hB7.trans ((putObj_frF (w := V) w5 D _ (by omega)).below hB7.size (fun i hi => by omega))⟩
        · have hTK : T = m := by omega
          subst hTK
          have i1 : ((KK : Int) < (T : Int)) = False := by simp; omega
          have i2 : (KK < T) = False := by simp; omega
          clear hT
          go_wp2_with fail
          go_region_held3 (fun w' => w'.cell? ⟨w.heap.size, 0, none⟩ = some (.int .i64 (T : Int)) ∧ w'.cell? ⟨bx + 1 + 1, 0, none⟩ = some (.slice A3 T c3))
            (first | with_reducible exact hsd | with_reducible exact ⟨c5, c10⟩ | with_reducible exact G3 | with_reducible exact G4 | go_keep)
            (first
              | (go_simp; with_reducible refine (HSM.out _ (by first | with_reducible exact Below.refl _ _ | exact (Below.refl _ _).drew | exact below_drews (Below.refl _ _) _)).mono ?_
                 rintro e w4 ⟨rfl, G3, HB4⟩)
              | (go_simp; with_reducible refine (HLV.out _ (by first | exact HB4.out | exact HB4.out.drew | exact below_drews HB4.out _)).mono ?_
                 rintro e w5 ⟨rfl, G4, HB6⟩))
          all_goals
            go_wp2_with fail
            have hDl := (Array.getElem?_eq_some_iff.1 HK.out).1
            have hKD := (HB6.out.block D hDl).trans HK.out
            have hB7 := HBE.out.trans (HB6.out.mono HBE.out.size)
            refine ⟨by simp, .inl ⟨_, _, rfl, run_takeDeferred hKD, ?_⟩⟩
            exact ⟨_, results_tmp rfl _ _ _, rfl, hB7.trans ((putObj_frF (w := V) w5 D _ (by omega)).below hB7.size (fun i hi => by omega))⟩
end Go.Proofs.Ytgongcbbbhdjeaa.fairEach
