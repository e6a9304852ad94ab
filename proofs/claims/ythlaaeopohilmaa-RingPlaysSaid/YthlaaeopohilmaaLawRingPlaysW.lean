/-
  The walk of RingPlays.
-/
import Derived.Test.YthlaaeopohilmaaRows
import Derived.WalkKit
import Derived.ProofKit
import Derived.OpenShut
import Derived.ShutString
import Derived.ChangeOld
import Derived.Below
import Derived.Test.YthlaaeopohilmaaRgDoesC
import Derived.Test.YthlaaeopohilmaaRgRef
namespace Go.Proofs.Ythlaaeopohilmaa.ringPlays
open Go.ChangeShapes Go.WideShapes Go.ChangeAt Go.RowKit Go.Proofs.Ythlaaeopohilmaa Go.Proofs.Ythlaaeopohilmaa.Plain
open Go.ChangeMaps (open_string shut_string)
set_option linter.unusedVariables false


/-- Where rows of numbers may stand while RingPlays plays. -/
def PD (w : World) (g s bx i : Nat) : Prop := w.heap.size ≤ i ∧ i ≠ g ∧ i ≠ s ∧ i ≠ bx
/-- Where RingPlays stands. -/
structure PlI (w wr : World) (g s bx R f : Nat) (L : List Int) (A : Option Addr) (c : Nat) : Prop where
  ring : RgI wr g s R f L
  box : Blk wr bx 27 #[.int .i64 (R : Int), .slice A L.length c]
  rx : RX wr (PD w g s bx) A c L
  bel : Below w.heap.size w wr
/-- Where RingPlays stands when a deed was done, and what it comes to lies in a box of its own. -/
def PlC (w : World) (g s bx R : Nat) (L : List Int) (A : Option Addr) (c : Nat) (s10 s11 : Value) (W : World) : Prop :=
  ∃ (nb f' : Nat) (L' : List Int) (A' : Option Addr) (c' : Nat), s10 = .pointer (some ⟨nb, 0, none⟩) ∧ s11 = .bool true ∧ nb ≠ bx ∧ Blk W nb 27 #[.int .i64 (R : Int), .slice A' L'.length c'] ∧ RgI W g s R f' L' ∧ RX W (PD w g s bx) A' c' L' ∧ Blk W bx 27 #[.int .i64 (R : Int), .slice A L.length c] ∧ Below w.heap.size w W
/-- The deed in whatever world the order of the statement comes to. -/
theorem PlI.does {w wr W : World} {g s bx R f : Nat} {L : List Int} {A : Option Addr} {c : Nat} (h : PlI w wr g s bx R f L A c) (hb : Below wr.heap.size wr W) (kind v : Int) (hv : -9223372036854775808 ≤ v ∧ v ≤ 9223372036854775807) :
    Calls Try.prog 10 #[.pointer (some ⟨g, 0, none⟩), .agg #[.int .i64 (R : Int), .slice A L.length c], .agg #[.int .i64 kind, .int .i64 v]] W (DoesPost g s R (stepL R kind v L) (fun i => PD w g s bx i ∧ i < wr.heap.size) W) :=
  does_any g s R f L A c W _ kind v (h.ring.below hb h.ring.lt.1 h.ring.lt.2) ((h.rx.mono (fun i h1 h2 => ⟨h1, h2⟩)).below hb (Nat.le_refl _)) (fun h => h.1.2.1 rfl) (fun h => h.1.2.2.1 rfl) hv.1 hv.2
theorem PlI.before {w wr W w6 : World} {g s bx R f f' : Nat} {L L' : List Int} {A A' : Option Addr} {c c' : Nat} {u0 u1 : Value} (h : PlI w wr g s bx R f L A c) (hW : W = (wr.alloc (.cells #[u0, u1] 27)).drew) (hgs : w.heap.size ≤ g ∧ w.heap.size ≤ s) (hbg : bx ≠ g ∧ bx ≠ s)
    (hq : RgI w6 g s R f' L') (hx : RX w6 (fun i => (PD w g s bx i ∧ i < wr.heap.size) ∨ W.heap.size ≤ i) A' c' L') (hf : Fr (fun i => i = g ∨ i = s) W w6) :
    PlC w g s bx R L A c (.pointer (some ⟨wr.heap.size, 0, none⟩)) (.bool true) ((w6.setCell ⟨wr.heap.size, 0, none⟩ (.int .i64 (R : Int))).setCell ⟨wr.heap.size, 1, none⟩ (.slice A' L'.length c')) := by
  have z0 := h.bel.size
  have zb := h.box.lt
  have zr := h.ring.lt
  have hz : W.heap.size = wr.heap.size + 1 := by rw [hW]; show (wr.alloc _).heap.size = _; simp
  have hnew : Blk W wr.heap.size 27 #[u0, u1] := by rw [hW]; exact (Blk.new wr _ _).drew
  have hbW : Below wr.heap.size wr W := by rw [hW]; exact ((Below.refl _ _).alloc (Nat.le_refl _) _).drew
  have hs := ((Fr.refl (fun i => i = wr.heap.size) w6).setCell (p := ⟨wr.heap.size, 0, none⟩) (.inl rfl) (.int .i64 (R : Int))).setCell (p := ⟨wr.heap.size, 1, none⟩) (.inl rfl) (.slice A' L'.length c')
  have h6 := hf.size
  refine ⟨wr.heap.size, f', L', A', c', rfl, rfl, by omega, fin_box (hf.blk hnew (by omega)), hq.fr hs (by omega) (by omega), (hx.fr hs (fun i h1 _ h2 => ?_)).mono (fun i h1 _ => ?_), hs.blk (hf.blk (h.box.below hbW zb) (by omega)) (by omega), ((h.bel.trans (hbW.mono z0)).trans (hf.below (by omega) (fun i hi => by omega))).trans (hs.below (by omega) (fun i hi => by omega))⟩
  · rcases h1 with h1 | h1 <;> omega
  · rcases h1 with h1 | h1
    · exact h1.1
    · exact ⟨by omega, by omega, by omega, by omega⟩
theorem PlI.after {w wr W w6 : World} {g s bx R f f' : Nat} {L L' : List Int} {A A' : Option Addr} {c c' : Nat} (h : PlI w wr g s bx R f L A c) (hW : W = wr.drew) (hgs : w.heap.size ≤ g ∧ w.heap.size ≤ s) (hbg : bx ≠ g ∧ bx ≠ s)
    (hq : RgI w6 g s R f' L') (hx : RX w6 (fun i => (PD w g s bx i ∧ i < wr.heap.size) ∨ W.heap.size ≤ i) A' c' L') (hf : Fr (fun i => i = g ∨ i = s) W w6) :
    PlC w g s bx R L A c (.pointer (some ⟨w6.heap.size, 0, none⟩)) (.bool true) (w6.alloc (.cells #[.int .i64 (R : Int), .slice A' L'.length c'] 27)) := by
  have z0 := h.bel.size
  have zb := h.box.lt
  have zr := h.ring.lt
  have hz : W.heap.size = wr.heap.size := by rw [hW]; rfl
  have hbW : Below wr.heap.size wr W := by rw [hW]; exact (Below.refl _ _).drew
  have h6 := hf.size
  refine ⟨w6.heap.size, f', L', A', c', rfl, rfl, by omega, Blk.new _ _ _, hq.alloc _, (hx.mono (fun i h1 _ => ?_)).alloc _, (hf.blk (h.box.below hbW zb) (by omega)).alloc _, ((h.bel.trans (hbW.mono z0)).trans (hf.below (by omega) (fun i hi => by omega))).alloc (by omega) _⟩
  rcases h1 with h1 | h1
  · exact h1.1
  · exact ⟨by omega, by omega, by omega, by omega⟩
set_option maxRecDepth 100000 in
set_option maxHeartbeats 40000000 in
theorem walk (a0 : Int) (a1 : Option Addr) (len1 cap1 : Nat) (z1 : List Int) (a2 : Option Addr) (len2 cap2 : Nat) (z2 : List DeedV) (w : World) (w0 : (Lit.int .i64 a0).wf = true) (w1 : IsRow .i64 w a1 len1 cap1 z1) (w2 : IsDeeds w a2 len2 cap2 z2) :
    Calls Try.prog 3 #[.int .i64 a0, .slice a1 len1 cap1, .slice a2 len2 cap2] w fun e w' => e = .returned (.bool true) ∧ Below w.heap.size w w' := by
  obtain ⟨l, hl, hR, _, hc, hn⟩ := row_int w1
  have ba := wf_i64 w0
  obtain ⟨hz1, hz2, hz3, hz4⟩ := w2
  have hrl := hR.few (m := min len1 50) (by omega)
  have hll : (l.take (min len1 50)).length = min len1 50 := by rw [List.length_take, hl]; omega
  generalize l.take (min len1 50) = l' at *
  obtain ⟨nl, hnl⟩ : ∃ k, k = min len1 50 := ⟨_, rfl⟩
  rw [← hnl] at hrl hll
  have hnl50 : nl ≤ 50 := by omega
  obtain ⟨rm, hrm⟩ : ∃ r : Int, r = if 40 < a0 then a0 % 41 else a0 := ⟨_, rfl⟩
  have hrm40 : rm ≤ 40 := by rw [hrm]; split <;> omega
  have HRL := Lib.hid hrl; have HLL := Lib.hid hll; have HNL := Lib.hid hnl; have HRM := Lib.hid hrm; have HZ1 := Lib.hid hz1; have HZ4 := Lib.hid hz4
  have hz3' : len2 ≤ 9223372036854775807 := by unfold maxLen at hz3; omega
  clear hrl hll hR hl w0 w1 hnl hrm hz1 hz4 hz3
  go_enter Try.func3, Try.ntmps3
  go_upto_if 13 with fail
  go_cut [0] (fun s0 wx => s0 = .int .i64 rm ∧ w = wx)
  case first =>
    by_cases h40 : 40 < a0
    · have e40 : rm = a0 % 41 := by have := HRM.out; rw [if_pos h40] at this; exact this
      have E40 := Lib.hid e40
      clear e40
      go_wp2_with fail
      go_meet
      exact ⟨by rw [E40.out], rfl⟩
    · have e40 : rm = a0 := by have := HRM.out; rw [if_neg h40] at this; exact this
      have E40 := Lib.hid e40
      clear e40
      go_wp2_with fail
      go_meet
      exact ⟨by rw [E40.out], rfl⟩
  case rest =>
  obtain ⟨rfl, rfl⟩ := hcut
  go_upto_if 18 with fail
  go_cut [1] (fun s1 wx => s1 = .slice a1 nl cap1 ∧ w = wx)
  case first =>
    by_cases h50 : 50 < len1
    · have e25 : nl = 50 := by have := HNL.out; omega
      have E25 := Lib.hid e25
      clear e25
      go_wp2_with fail
      go_meet
      exact ⟨by rw [E25.out], rfl⟩
    · have e25 : nl = len1 := by have := HNL.out; omega
      have E25 := Lib.hid e25
      clear e25
      go_wp2_with fail
      go_meet
      exact ⟨by rw [E25.out], rfl⟩
  case rest =>
  obtain ⟨rfl, rfl⟩ := hcut
  go_wp2_with fail
  refine (new_anyI rm l' nl HLL.out w _ _ _ HRL.out (Nat.le_refl _)).mono ?_
  rintro e w1 ⟨g, s, rfl, hq, hg, hs, hb⟩
  have hql := hq.lt
  have z1 := hb.size
  have HQ := Lib.hid hq; have HB := Lib.hid hb
  clear hq hb
  go_wp2_with fail
  have hx := refNew_any rm (by omega) l' nl HLL.out w1 _ a1 cap1 (HRL.out.below HB.out) (by omega) (by omega)
  obtain ⟨R, hRR⟩ : ∃ R, R = clampR rm := ⟨_, rfl⟩
  obtain ⟨L0, hL0⟩ : ∃ L, L = l'.take R := ⟨_, rfl⟩
  have HRR := Lib.hid hRR
  have hq := HQ.out
  rw [← hRR, ← hL0] at hx hq
  clear hRR
  refine hx.mono ?_
  rintro e w3 ⟨Ax, cx, rfl, hox, hb3⟩
  clear hx
  have z3 := hb3.size
  have hR1 := hq.hi
  have hq3 := (hq.below hb3 hql.1 hql.2).alloc (.cells #[.int .i64 (R : Int), .slice Ax L0.length cx] 27)
  have hbb := (HB.out.trans (hb3.mono (by omega))).alloc (by omega) (.cells #[.int .i64 (R : Int), .slice Ax L0.length cx] 27)
  have hbx := Blk.new w3 27 #[.int .i64 (R : Int), .slice Ax L0.length cx]
  have hrx : RX (w3.alloc (.cells #[.int .i64 (R : Int), .slice Ax L0.length cx] 27)) (PD w g s w3.heap.size) Ax cx L0 := ((RX.of_own hox).mono (E := PD w g s w3.heap.size) (fun i h1 h2 => ⟨by omega, by omega, by omega, by omega⟩)).alloc _
  obtain ⟨bx, hbx0⟩ : ∃ b, b = w3.heap.size := ⟨_, rfl⟩
  rw [← hbx0] at hbx hrx
  have hbg : bx ≠ g ∧ bx ≠ s := by omega
  have hbw : w.heap.size ≤ bx := by omega
  have HPL : Hid (PlI w (w3.alloc (.cells #[.int .i64 (R : Int), .slice Ax L0.length cx] 27)) g s bx R 0 L0 Ax cx) := Lib.hid ⟨hq3, hbx, hrx, hbb⟩
  have HBX := Lib.hid hbx0
  clear hq hq3 hbb hbx hrx hb3 hox hL0 HQ HB hbx0
  go_upto_block 0 with fail
  rw [← HBX.out]
  clear HBX
  go_wp2_with fail
  go_loopw [9] (fun s9 wr => ∃ (k f : Nat) (L : List Int) (A : Option Addr) (c : Nat), k ≤ len2 ∧ k ≤ 60 ∧ s9 = .int .i64 (k : Int) ∧ PlI w wr g s bx R f L A c) (fun s9 _ => 60 - (intOf s9).toNat)
  case atStart => exact ⟨0, 0, L0, Ax, cx, by omega, by omega, rfl, HPL.out⟩
  case round =>
    clear HPL
    obtain ⟨k, f, L, A, c, hk1, hk2, rfl, hpl⟩ := hrel
    have x0 : wr.cell? ⟨bx, 0, none⟩ = some (.int .i64 (R : Int)) := (hpl.box.cell 0).trans rfl
    have x1 : wr.cell? ⟨bx, 1, none⟩ = some (.slice A L.length c) := (hpl.box.cell 1).trans rfl
    have xz0 : wr.frozen? ⟨bx, 0, none⟩ = false := hpl.box.frozen 0
    have xz1 : wr.frozen? ⟨bx, 1, none⟩ = false := hpl.box.frozen 1
    have hlR := hpl.ring.len
    have hlg := hpl.ring.lt
    have hlb := hpl.box.lt
    have hbz := hpl.bel.size
    have HPL := Lib.hid hpl
    clear hpl
    by_cases hlt : k < len2 ∧ k < 60
    · obtain ⟨hlt1, hlt2⟩ := hlt
      obtain ⟨ad, rfl, hab, hat⟩ := HZ4.out (by omega)
      have hzk : z2[k]? = some (z2[k]'(by have := HZ1.out; omega)) := List.getElem?_eq_getElem (by have := HZ1.out; omega)
      have hdk := (hat k _ hzk).below (by rw [block_of_add]; exact hab) HPL.out.bel
      generalize z2[k]'(by have := HZ1.out; omega) = p at *
      obtain ⟨d0, d1⟩ := hdk.cells
      have hpb := hdk.2.2
      have hdo := fun W hb => HPL.out.does (W := W) hb p.kind p.v hpb.2
      have HDO := Lib.hid hdo
      have bel1 : Below wr.heap.size wr wr.drew := (Below.refl _ _).drew
      have bel2 : Below wr.heap.size wr (wr.alloc (.cells #[.int .i64 0, .slice none 0 0] 27)).drew := ((Below.refl _ _).alloc (Nat.le_refl _) _).drew
      have hk0 : (0 : Int) ≤ (k : Int) := by omega
      have hk3 : (k : Int) < (len2 : Int) := by omega
      have hnx : ¬ (bx = g ∨ bx = s) := by omega
      have hng : ¬ (wr.heap.size = g ∨ wr.heap.size = s) := by omega
      have had : (ad.add (k * 2)).block < wr.heap.size := by rw [block_of_add]; omega
      have had2 : ¬ ((ad.add (k * 2)).block = g ∨ (ad.add (k * 2)).block = s) := by rw [block_of_add]; omega
      clear hdo hat hzk hdk hpb
      go_wp2_with fail
      go_cut [10, 11] (fun s10 s11 wx => PlC w g s bx R L A c s10 s11 wx)
      case first =>
        go_region_held3 (fun w' => w'.cell? ⟨bx, 0, none⟩ = some (.int .i64 (R : Int)) ∧ w'.cell? ⟨bx, 1, none⟩ = some (.slice A L.length c) ∧ w'.cell? (ad.add (k * 2)) = some (.int .i64 p.kind) ∧ w'.cell? ⟨(ad.add (k * 2)).block, (ad.add (k * 2)).off + 1, none⟩ = some (.int .i64 p.v))
          (first | with_reducible exact ⟨x0, x1, d0, d1⟩ | with_reducible exact ⟨y0, y1, e0, e1⟩ | with_reducible exact ⟨v0, v1, v2, v3⟩ | go_keep)
          (first
            | (go_simp; (with_reducible refine (HDO.out _ bel2).mono ?_); (rintro e w6 ⟨f', A', c', rfl, hq, hrx, hf⟩); have kn := hf.blk (Blk.new wr 27 #[.int .i64 0, .slice none 0 0]).drew hng; have t0 : w6.cell? ⟨wr.heap.size, 0, none⟩ = some (.int .i64 0) := (kn.cell 0).trans rfl; have t1 : w6.cell? ⟨wr.heap.size, 1, none⟩ = some (.slice none 0 0) := (kn.cell 1).trans rfl; have tz0 : w6.frozen? ⟨wr.heap.size, 0, none⟩ = false := kn.frozen 0; have tz1 : w6.frozen? ⟨wr.heap.size, 1, none⟩ = false := kn.frozen 1; have y0 := ((hf.cell (p := ⟨bx, 0, none⟩) (by have := hlb; show _ < (wr.alloc (.cells #[.int .i64 0, .slice none 0 0] 27)).heap.size; simp; omega) hnx).trans (World.cell?_alloc_lt wr _ ⟨bx, 0, none⟩ hlb)).trans x0; have y1 := ((hf.cell (p := ⟨bx, 1, none⟩) (by have := hlb; show _ < (wr.alloc (.cells #[.int .i64 0, .slice none 0 0] 27)).heap.size; simp; omega) hnx).trans (World.cell?_alloc_lt wr _ ⟨bx, 1, none⟩ hlb)).trans x1; have e0 := ((hf.cell (p := (ad.add (k * 2))) (by have := had; show _ < (wr.alloc (.cells #[.int .i64 0, .slice none 0 0] 27)).heap.size; simp; omega) had2).trans (World.cell?_alloc_lt wr _ (ad.add (k * 2)) had)).trans d0; have e1 := ((hf.cell (p := ⟨(ad.add (k * 2)).block, (ad.add (k * 2)).off + 1, none⟩) (by have := had; show _ < (wr.alloc (.cells #[.int .i64 0, .slice none 0 0] 27)).heap.size; simp; omega) had2).trans (World.cell?_alloc_lt wr _ ⟨(ad.add (k * 2)).block, (ad.add (k * 2)).off + 1, none⟩ had)).trans d1; have v0 := ((World.cell?_setCell_other (w6.setCell ⟨wr.heap.size, 0, none⟩ (.int .i64 (R : Int))) ⟨wr.heap.size, 1, none⟩ ⟨bx, 0, none⟩ (.slice A' (stepL R p.kind p.v L).length c') (fun e => by have h9 := hlb; have h8 := congrArg Addr.block e; simp at h8; omega)).trans (World.cell?_setCell_other w6 ⟨wr.heap.size, 0, none⟩ ⟨bx, 0, none⟩ (.int .i64 (R : Int)) (fun e => by have h9 := hlb; have h8 := congrArg Addr.block e; simp at h8; omega))).trans y0; have v1 := ((World.cell?_setCell_other (w6.setCell ⟨wr.heap.size, 0, none⟩ (.int .i64 (R : Int))) ⟨wr.heap.size, 1, none⟩ ⟨bx, 1, none⟩ (.slice A' (stepL R p.kind p.v L).length c') (fun e => by have h9 := hlb; have h8 := congrArg Addr.block e; simp at h8; omega)).trans (World.cell?_setCell_other w6 ⟨wr.heap.size, 0, none⟩ ⟨bx, 1, none⟩ (.int .i64 (R : Int)) (fun e => by have h9 := hlb; have h8 := congrArg Addr.block e; simp at h8; omega))).trans y1; have v2 := ((World.cell?_setCell_other (w6.setCell ⟨wr.heap.size, 0, none⟩ (.int .i64 (R : Int))) ⟨wr.heap.size, 1, none⟩ (ad.add (k * 2)) (.slice A' (stepL R p.kind p.v L).length c') (fun e => by have h9 := had; have h8 := congrArg Addr.block e; simp at h8; omega)).trans (World.cell?_setCell_other w6 ⟨wr.heap.size, 0, none⟩ (ad.add (k * 2)) (.int .i64 (R : Int)) (fun e => by have h9 := had; have h8 := congrArg Addr.block e; simp at h8; omega))).trans e0; have v3 := ((World.cell?_setCell_other (w6.setCell ⟨wr.heap.size, 0, none⟩ (.int .i64 (R : Int))) ⟨wr.heap.size, 1, none⟩ ⟨(ad.add (k * 2)).block, (ad.add (k * 2)).off + 1, none⟩ (.slice A' (stepL R p.kind p.v L).length c') (fun e => by have h9 := had; have h8 := congrArg Addr.block e; simp at h8; omega)).trans (World.cell?_setCell_other w6 ⟨wr.heap.size, 0, none⟩ ⟨(ad.add (k * 2)).block, (ad.add (k * 2)).off + 1, none⟩ (.int .i64 (R : Int)) (fun e => by have h9 := had; have h8 := congrArg Addr.block e; simp at h8; omega))).trans e1)
            | (go_simp; (with_reducible refine (HDO.out _ bel1).mono ?_); (rintro e w6 ⟨f', A', c', rfl, hq, hrx, hf⟩); have y0 := (hf.cell (p := ⟨bx, 0, none⟩) hlb hnx).trans x0; have y1 := (hf.cell (p := ⟨bx, 1, none⟩) hlb hnx).trans x1; have e0 := (hf.cell (p := ad.add (k * 2)) had had2).trans d0; have e1 := (hf.cell (p := ⟨(ad.add (k * 2)).block, (ad.add (k * 2)).off + 1, none⟩) had had2).trans d1; have v0 := (World.cell?_alloc_lt w6 (.cells #[.int .i64 (R : Int), .slice A' (stepL R p.kind p.v L).length c'] 27) ⟨bx, 0, none⟩ (Nat.lt_of_lt_of_le hlb hf.size)).trans y0; have v1 := (World.cell?_alloc_lt w6 (.cells #[.int .i64 (R : Int), .slice A' (stepL R p.kind p.v L).length c'] 27) ⟨bx, 1, none⟩ (Nat.lt_of_lt_of_le hlb hf.size)).trans y1; have v2 := (World.cell?_alloc_lt w6 (.cells #[.int .i64 (R : Int), .slice A' (stepL R p.kind p.v L).length c'] 27) (ad.add (k * 2)) (Nat.lt_of_lt_of_le had hf.size)).trans e0; have v3 := (World.cell?_alloc_lt w6 (.cells #[.int .i64 (R : Int), .slice A' (stepL R p.kind p.v L).length c'] 27) ⟨(ad.add (k * 2)).block, (ad.add (k * 2)).off + 1, none⟩ (Nat.lt_of_lt_of_le had hf.size)).trans e1))
        all_goals
          have hpo := HPL
          clear x0 x1 xz0 xz1 d0 d1
          go_wp2_with fail
          go_meet
          first
            | with_reducible exact HPL.out.after rfl ⟨hg, hs⟩ hbg hq hrx hf
            | with_reducible exact HPL.out.before rfl ⟨hg, hs⟩ hbg hq hrx hf
      case rest =>
        obtain ⟨nb, f', L', A', c', rfl, rfl, hnb, kn, hq, hrx, kb, hbel⟩ := hcut
        clear x0 x1 xz0 xz1 d0 d1 HDO bel1 bel2 hnx hng had had2 hlb hlg HPL
        have n0 : wc.cell? ⟨nb, 0, none⟩ = some (.int .i64 (R : Int)) := (kn.cell 0).trans rfl
        have n1 : wc.cell? ⟨nb, 1, none⟩ = some (.slice A' L'.length c') := (kn.cell 1).trans rfl
        have b0 : wc.cell? ⟨bx, 0, none⟩ = some (.int .i64 (R : Int)) := (kb.cell 0).trans rfl
        have b1 : wc.cell? ⟨bx, 1, none⟩ = some (.slice A L.length c) := (kb.cell 1).trans rfl
        have bz0 : wc.frozen? ⟨bx, 0, none⟩ = false := kb.frozen 0
        have bz1 : wc.frozen? ⟨bx, 1, none⟩ = false := kb.frozen 1
        have hst := ((Fr.refl (fun i => i = bx) wc).setCell (p := ⟨bx, 0, none⟩) (.inl rfl) (.int .i64 (R : Int))).setCell (p := ⟨bx, 1, none⟩) (.inl rfl) (.slice A' L'.length c')
        obtain ⟨W8, hW8⟩ : ∃ W, W = (wc.setCell ⟨bx, 0, none⟩ (.int .i64 (R : Int))).setCell ⟨bx, 1, none⟩ (.slice A' L'.length c') := ⟨_, rfl⟩
        have hpl : PlI w W8 g s bx R f' L' A' c' := by
          rw [hW8]
          exact ⟨hq.fr hst (by omega) (by omega), by have := (kb.set_ 0 (.int .i64 (R : Int))).set_ 1 (.slice A' L'.length c'); simpa using this, hrx.fr hst (fun i h1 _ h2 => h1.2.2.2 h2), hbel.trans (hst.below hbel.size (fun i hi => by omega))⟩
        have HPL := Lib.hid hpl; have HW8 := Lib.hid hW8
        clear hst hpl hW8 kn hq hrx kb hbel
        go_upto_region 14 with fail
        rw [← HW8.out]
        clear HW8 n0 n1 b0 b1 bz0 bz1
        have b0 : W8.cell? ⟨bx, 0, none⟩ = some (.int .i64 (R : Int)) := (HPL.out.box.cell 0).trans rfl
        have b1 : W8.cell? ⟨bx, 1, none⟩ = some (.slice A' L'.length c') := (HPL.out.box.cell 1).trans rfl
        have r1 := HPL.out.ring.drew
        have r2 := fun n => HPL.out.ring.drewN n
        have rd := HPL.out.rx.reads
        have x2 : ∀ n, Reads (W8.drewN n) W8.heap.size 1 A' L'.length (L'.map EnI) := fun n => rd
        have hlR' := HPL.out.ring.len
        have hRb := HPL.out.ring.hi
        have zb8 := HPL.out.box.lt
        have hwr : IntKind.i64.wrap ((R : Int) - (L'.length : Int)) = ((R - L'.length : Nat) : Int) := by rw [IntWalk.i64_in _ (by omega)]; omega
        have R1 := Lib.hid r1; have R2 := Lib.hid r2; have X2 := Lib.hid x2
        clear r1 r2 rd x2
        go_cut [77] (fun s77 wx => s77 = .bool false ∧ PlI w wx g s bx R f' L' A' c')
        case first =>
          go_region_held3 (fun w' => w'.cell? ⟨bx, 0, none⟩ = some (.int .i64 (R : Int)) ∧ w'.cell? ⟨bx, 1, none⟩ = some (.slice A' L'.length c'))
            (first | with_reducible exact ⟨b0, b1⟩ | with_reducible exact ⟨y0, y1⟩ | go_keep)
            (first
              | (go_at_call 11; (with_reducible refine (len_anyI g s R f' L' _ R1.out).mono ?_); (rintro e w' ⟨rfl, rfl⟩))
              | (go_at_call 12; (with_reducible refine (room_anyI g s R f' L' _ R1.out).mono ?_); (rintro e w' ⟨rfl, n7, rfl⟩))
              | (go_at_call 13; (with_reducible refine (all_yes g s R f' L' (-1) _ (R2.out _) _ A' c' (X2.out _) (Nat.le_refl _)).mono ?_); (rintro e w9 ⟨rfl, hb9⟩); have y0 := (hb9.cell (p := ⟨bx, 0, none⟩) zb8).trans b0; have y1 := (hb9.cell (p := ⟨bx, 1, none⟩) zb8).trans b1))
          all_goals
            have hb8 : Below W8.heap.size W8 w9 := (below_drews (Below.refl W8.heap.size W8) (1 + n7)).trans hb9
            have hpl9 : PlI w w9 g s bx R f' L' A' c' := ⟨HPL.out.ring.below hb8 HPL.out.ring.lt.1 HPL.out.ring.lt.2, HPL.out.box.below hb8 HPL.out.box.lt, HPL.out.rx.below hb8 (Nat.le_refl _), HPL.out.bel.trans (hb8.mono HPL.out.bel.size)⟩
            have HPL9 := Lib.hid hpl9
            clear hpl9 hb8 hb9 y0 y1 b0 b1
            go_wp2_with fail
            go_meet
            exact ⟨rfl, HPL9.out⟩
        case rest =>
          obtain ⟨rfl, hpl⟩ := hcut
          have HPL9 := Lib.hid hpl
          clear hpl b0 b1 R1 R2 X2 HPL
          go_wp2_with fail
          exact ⟨⟨k + 1, f', L', A', c', by omega, by omega, by go_num, HPL9.out⟩, by simp [intOf]; omega⟩
    · have h60 : k < len2 → 60 ≤ k := fun h => by omega
      by_cases hge : k < len2
      · have hge2 := h60 hge
        clear h60 hlt xz0 xz1 hlb hlg
        go_wp2_with fail
        refine (all_yes g s R f L (len2 : Int) wr HPL.out.ring _ A c HPL.out.rx.reads (Nat.le_refl _)).mono ?_
        rintro e w4 ⟨rfl, hb4⟩
        have hb5 := HPL.out.bel.trans (hb4.mono hbz)
        have HB5 := Lib.hid hb5
        clear hb4 hb5 x0 x1
        go_wp2_with fail
        refine (lives_any _).mono ?_
        rintro e w' ⟨rfl, hbl⟩
        go_wp2_with fail
        go_ret
        exact ⟨rfl, HB5.out.trans (hbl.mono HB5.out.size)⟩
      · clear h60 hlt xz0 xz1 hlb hlg
        go_wp2_with fail
        refine (all_yes g s R f L (len2 : Int) wr HPL.out.ring _ A c HPL.out.rx.reads (Nat.le_refl _)).mono ?_
        rintro e w4 ⟨rfl, hb4⟩
        have hb5 := HPL.out.bel.trans (hb4.mono hbz)
        have HB5 := Lib.hid hb5
        clear hb4 hb5 x0 x1
        go_wp2_with fail
        refine (lives_any _).mono ?_
        rintro e w' ⟨rfl, hbl⟩
        go_wp2_with fail
        go_ret
        exact ⟨rfl, HB5.out.trans (hbl.mono HB5.out.size)⟩
end Go.Proofs.Ythlaaeopohilmaa.ringPlays
