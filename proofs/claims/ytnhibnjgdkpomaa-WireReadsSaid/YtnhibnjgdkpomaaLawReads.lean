/-
  Proved here: whatever is read, of any bytes, is what the document says, with its place and error.
-/
import Derived.Test.YtnhibnjgdkpomaaRows
import Derived.WalkKit
import Derived.ProofKit
import Derived.OpenShut
import Derived.ShutString
import Derived.ChangeOld
import Derived.Below
import Derived.Test.YtnhibnjgdkpomaaRound
import Derived.Test.YtnhibnjgdkpomaaAskAny
import Derived.Deep.DeepCutAuto
namespace Go.Proofs.Ytnhibnjgdkpomaa.wireReads
open Go.ChangeShapes Go.WideShapes Go.ChangeAt Go.RowKit Go.Proofs.Ytnhibnjgdkpomaa Go.Proofs.Ytnhibnjgdkpomaa.Plain
open Go.ChangeMaps (open_string shut_string)
set_option linter.unusedVariables false

theorem own : ownKnob Try.prog.godebug = none := by kernel_rfl
theorem laidOut : laidOutB Try.prog = true := by kernel_rfl

def ReadsRel (w : World) (B1 g xb N n c : Nat) (A : Option Addr) (v : Value) (ys : List Nat) (s : Value) (wr : World) : Prop :=
  ∃ (i at_ : Nat) (e : Int), s = .int .i64 (i : Int) ∧ i ≤ 20 ∧ i ≤ N ∧ Rd wr B1 g v ys at_ e ∧ Blk wr xb 34 #[.slice A n c, .int .i64 (at_ : Int), .int .i64 e] ∧ Below w.heap.size w wr

/-- Behind the question: the answer's reader lies in a box of its own. -/
def AskedCut (wr : World) (B1 g n c : Nat) (A : Option Addr) (v : Value) (ys : List Nat) (s8 s9 : Value) (wx : World) : Prop :=
  ∃ (bx at' : Nat) (e' : Int), s8 = .pointer (some ⟨bx, 0, none⟩) ∧ s9 = .bool true ∧ wr.heap.size ≤ bx ∧ Blk wx bx 34 #[.slice A n c, .int .i64 (at' : Int), .int .i64 e'] ∧ Rd wx B1 g v ys at' e' ∧ Fr (fun i => i = g) wr wx

theorem rcell {W w1 : World} {g : Nat} (h : Fr (fun i => i = g) W w1) : (∀ b o, b < W.heap.size → ¬ b = g → w1.cell? ⟨b, o, none⟩ = W.cell? ⟨b, o, none⟩) ∧ (∀ b o, b < W.heap.size → ¬ b = g → w1.frozen? ⟨b, o, none⟩ = W.frozen? ⟨b, o, none⟩) :=
  ⟨fun b o hb hg => h.cell (p := ⟨b, o, none⟩) hb hg, fun b o hb hg => World.frozen?_of_block (h.block b hb hg)⟩

set_option maxRecDepth 100000 in
set_option maxHeartbeats 4000000 in
theorem walk (a0 : Option Addr) (len0 cap0 : Nat) (z0 : List Int) (a1 : Option Addr) (len1 cap1 : Nat) (z1 : List PutV) (w : World) (w0 : IsRow .u8 w a0 len0 cap0 z0) (w1 : IsPuts w a1 len1 cap1 z1) :
    Calls Try.prog 4 #[.slice a0 len0 cap0, .slice a1 len1 cap1] w fun e w' => e = .returned (.bool true) ∧ Below w.heap.size w w' := by
  obtain ⟨xs, hl, hx, hr, hc, hn⟩ := row_reads w0
  clear w0
  have hrn := hr.take (m := min len0 200) (by omega)
  obtain ⟨n, hnn⟩ : ∃ n, n = min len0 200 := ⟨_, rfl⟩
  have hn200 : n ≤ 200 := by omega
  have hnc0 : n ≤ cap0 := by omega
  have hln : (xs.take (min len0 200)).length = n := by simp; omega
  have hxn : ∀ x ∈ xs.take (min len0 200), x < 256 := fun x h => hx x (List.mem_of_mem_take h)
  have HF := Lib.hid (few_any a0 len0 cap0 200 w hc hn (by omega))
  rw [← hnn] at HF hrn hln hxn
  generalize xs.take n = ys at hrn hln hxn
  clear hr hl hx hc hn hnn xs
  subst hln
  have hlen : ys.length ≤ 140737488355328 := by omega
  have HR := Lib.hid hrn
  have HX := Lib.hid hxn
  have HP := Lib.hid w1
  have HLEN := Lib.hid hlen
  have hl1 : len1 ≤ 9223372036854775807 := by have := w1.2.1; have := w1.2.2.1; unfold maxLen at *; omega
  clear hrn hxn hlen w1
  go_enter Try.func4, Try.ntmps4
  go_wp2_with fail
  refine HF.out.mono ?_
  rintro e w' ⟨rfl, rfl⟩
  go_wp2_with fail
  refine (newReader_any ys ys.length rfl w _ a0 cap0 HR.out (by omega)).mono ?_
  rintro e w1 ⟨v, g, rfl, hR1, hg, hb1⟩
  have zz1 := hb1.size
  have HB1 := Lib.hid hb1
  have HR1 := Lib.hid hR1
  clear hb1 hR1
  go_wp2_with fail
  have hrel0 : ReadsRel w w.heap.size g w1.heap.size len1 ys.length cap0 a0 v ys (.int .i64 0) (w1.alloc (.cells #[.slice a0 ys.length cap0, .int .i64 0, .int .i64 0] 34)) :=
    ⟨0, 0, 0, rfl, by omega, by omega, HR1.out.alloc _, Blk.new w1 _ _, HB1.out.alloc zz1 _⟩
  have HREL0 := Lib.hid hrel0
  clear hrel0
  go_loopw [7] (fun s wr => ReadsRel w w.heap.size g w1.heap.size len1 ys.length cap0 a0 v ys s wr) (fun s _ => 20 - (intOf s).toNat)
  case atStart => exact HREL0.out
  case round =>
    obtain ⟨i, at_, e, rfl, hi20, hin, hRr, hXr, hBr⟩ := hrel
    have HRr := Lib.hid hRr
    have HXr := Lib.hid hXr
    have HBr := Lib.hid hBr
    have zr := hBr.size
    have zx := hXr.lt
    clear hRr hXr hBr
    by_cases hgo : i < len1 ∧ i < 20
    · obtain ⟨hgo1, hgo2⟩ := hgo
      obtain ⟨hpl, hpc, hpm, hpa⟩ := HP.out
      obtain ⟨x, rfl, hxb, hpx⟩ := hpa (by omega)
      have hp0 := hpx i _ (List.getElem?_eq_getElem (show i < z1.length by omega))
      generalize z1[i] = p at hp0
      have hxb' : (x.add (i * 4)).block < w.heap.size := by rw [block_of_add]; exact hxb
      have HP0 := Lib.hid hp0
      have bN := hp0.2.2.2.2.2.1
      clear hpl hpc hpm hpa hpx hp0
      obtain ⟨ck, cn, cv, cs⟩ := (HP0.out.below hxb' HBr.out).cells
      have x0 : wr.cell? ⟨w1.heap.size, 0, none⟩ = some (.slice a0 ys.length cap0) := by rw [HXr.out.cell]; rfl
      have x1 : wr.cell? ⟨w1.heap.size, 1, none⟩ = some (.int .i64 (at_ : Int)) := by rw [HXr.out.cell]; rfl
      have x2 : wr.cell? ⟨w1.heap.size, 2, none⟩ = some (.int .i64 e) := by rw [HXr.out.cell]; rfl
      have hgx : w1.heap.size ≠ g := by have := HR1.out.lt; omega
      have hgr : g < wr.heap.size := HRr.out.lt
      have ks : ∀ w', Fr (fun i => i = g) wr w' → w'.cell? ⟨w1.heap.size, 0, none⟩ = some (.slice a0 ys.length cap0) ∧ w'.cell? ⟨w1.heap.size, 1, none⟩ = some (.int .i64 (at_ : Int)) ∧ w'.cell? ⟨w1.heap.size, 2, none⟩ = some (.int .i64 e) ∧ w'.cell? (x.add (i * 4)) = some (.int .i64 p.kind) ∧ w'.cell? ⟨(x.add (i * 4)).block, (x.add (i * 4)).off + 1, none⟩ = some (.int .i64 p.n) ∧ w'.cell? ⟨(x.add (i * 4)).block, (x.add (i * 4)).off + 2, none⟩ = some (.int .i64 p.v) ∧ w'.cell? ⟨(x.add (i * 4)).block, (x.add (i * 4)).off + 3, none⟩ = some (.string p.s) := fun w' hf => by
        obtain ⟨a, b, c, d⟩ := (HP0.out.below hxb' (HBr.out.trans (hf.below zr (fun i h => by subst h; exact hg)))).cells
        exact ⟨by rw [(hf.blk HXr.out hgx).cell]; rfl, by rw [(hf.blk HXr.out hgx).cell]; rfl, by rw [(hf.blk HXr.out hgx).cell]; rfl, a, b, c, d⟩
      have ask : ∀ W, Below wr.heap.size wr W → Calls Try.prog 15 #[.pointer (some ⟨g, 0, none⟩), .agg #[.slice a0 ys.length cap0, .int .i64 (at_ : Int), .int .i64 e], .agg #[.int .i64 p.kind, .int .i64 p.n, .int .i64 p.v, .string p.s]] W (fun en w' => ∃ (at' : Nat) (e' : Int), Asked a0 ys.length cap0 w.heap.size g v ys at' e' W en w') := fun W hb =>
        ask_any ys cap0 at_ a0 e p.kind p.n p.v p.s w.heap.size g v W w.heap.size HX.out hnc0 HLEN.out (HR.out.below (HBr.out.trans (hb.mono zr))) (by have := hb.size; omega) hg (HRr.out.below hb) bN.1 bN.2
      have KS := Lib.hid ks
      have ASK := Lib.hid ask
      clear ks ask
      have hgn : ¬ wr.heap.size = g := by omega
      go_upto_region 9 with fail
      go_cut [8, 9] (fun s8 s9 wx => AskedCut wr w.heap.size g ys.length cap0 a0 v ys s8 s9 wx)
      case first =>
        go_region_held3 (fun w' => w'.cell? ⟨w1.heap.size, 0, none⟩ = some (.slice a0 ys.length cap0) ∧ w'.cell? ⟨w1.heap.size, 1, none⟩ = some (.int .i64 (at_ : Int)) ∧ w'.cell? ⟨w1.heap.size, 2, none⟩ = some (.int .i64 e) ∧ w'.cell? (x.add (i * 4)) = some (.int .i64 p.kind) ∧ w'.cell? ⟨(x.add (i * 4)).block, (x.add (i * 4)).off + 1, none⟩ = some (.int .i64 p.n) ∧ w'.cell? ⟨(x.add (i * 4)).block, (x.add (i * 4)).off + 2, none⟩ = some (.int .i64 p.v) ∧ w'.cell? ⟨(x.add (i * 4)).block, (x.add (i * 4)).off + 3, none⟩ = some (.string p.s))
          (first | (exact KS.out _ (by repeat (first | assumption | exact Fr.refl _ _ | refine Fr.drew ?_ | refine Fr.setCell ?_ (.inr (by first | omega | (simp; omega) | simp)) _ | refine Fr.alloc ?_ _))))
          (first
            | (go_simp; go_at_call 15; refine (ASK.out _ (by repeat (first | assumption | exact Below.refl _ _ | refine Below.drew ?_ | refine Below.alloc ?_ (by first | omega | (simp; omega) | simp) _))).mono ?_; rintro en w2 ⟨at', e', rfl, hst⟩
               have hfq : Fr (fun i => i = g) wr w2 := Fr.trans (by repeat (first | assumption | exact Fr.refl _ _ | refine Fr.drew ?_ | refine Fr.setCell ?_ (.inr (by first | omega | (simp; omega) | simp)) _ | refine Fr.alloc ?_ _)) hst.2 (fun _ _ h => h)
               obtain ⟨hcc, hff⟩ := rcell hst.2
               have hzz := hst.2.size
               simp at hzz))
        all_goals
          go_wp2_with fail
          go_meet
          refine ⟨_, at', e', rfl, rfl, ?_, ?_, ?_, ?_⟩
          · first | exact Nat.le_refl _ | exact hfq.size
          · first
              | exact Blk.new w2 _ _
              | simpa using (((hst.2.blk ((Blk.new wr 34 #[.slice none 0 0, .int .i64 0, .int .i64 0]).drew) hgn).set_ 0 (.slice a0 ys.length cap0)).set_ 1 (.int .i64 (at' : Int))).set_ 2 (.int .i64 e')
          · first
              | exact hst.1.alloc _
              | exact hst.1.fr (S := fun i => i = wr.heap.size) ((((Fr.refl (fun i => i = wr.heap.size) w2).setCell (p := ⟨wr.heap.size, 0, none⟩) (.inl rfl) _).setCell (p := ⟨wr.heap.size, 1, none⟩) (.inl rfl) _).setCell (p := ⟨wr.heap.size, 2, none⟩) (.inl rfl) _) (by omega) (fun i hi => by have := (HRr.out.2.1.lt i hi).2; omega)
          · repeat (first | assumption | exact Fr.refl _ _ | refine Fr.drew ?_ | refine Fr.setCell ?_ (.inr (by first | omega | (simp; omega) | simp)) _ | refine Fr.alloc ?_ _)
      case rest =>
        obtain ⟨bx, at', e', rfl, rfl, hbx, hbk, hRc, hfc⟩ := hcut
        have hxc := hfc.blk HXr.out hgx
        have y0 : wc.cell? ⟨bx, 0, none⟩ = some (.slice a0 ys.length cap0) := by rw [hbk.cell]; rfl
        have y1 : wc.cell? ⟨bx, 1, none⟩ = some (.int .i64 (at' : Int)) := by rw [hbk.cell]; rfl
        have y2 : wc.cell? ⟨bx, 2, none⟩ = some (.int .i64 e') := by rw [hbk.cell]; rfl
        have c0 : wc.cell? ⟨w1.heap.size, 0, none⟩ = some (.slice a0 ys.length cap0) := by rw [hxc.cell]; rfl
        have c1 : wc.cell? ⟨w1.heap.size, 1, none⟩ = some (.int .i64 (at_ : Int)) := by rw [hxc.cell]; rfl
        have c2 : wc.cell? ⟨w1.heap.size, 2, none⟩ = some (.int .i64 e) := by rw [hxc.cell]; rfl
        have f0 := hxc.frozen 0
        have f1 := hxc.frozen 1
        have f2 := hxc.frozen 2
        have hbxx : bx ≠ w1.heap.size := by omega
        have HXC := Lib.hid hxc
        have HRC := Lib.hid hRc
        have HFC := Lib.hid hfc
        have HBK := Lib.hid hbk
        clear hxc hRc hfc hbk x0 x1 x2 ck cn cv cs
        go_upto_region 11 with fail
        obtain ⟨wd, hwd⟩ : ∃ wd, wd = (((wc.setCell ⟨w1.heap.size, 0, none⟩ (.slice a0 ys.length cap0)).setCell ⟨w1.heap.size, 1, none⟩ (.int .i64 (at' : Int))).setCell ⟨w1.heap.size, 2, none⟩ (.int .i64 e')) := ⟨_, rfl⟩
        rw [← hwd]
        have hfd : Fr (fun i => i = w1.heap.size) wc wd := by
          rw [hwd]
          exact (((Fr.refl (fun i => i = w1.heap.size) wc).setCell (p := ⟨w1.heap.size, 0, none⟩) (.inl rfl) _).setCell (p := ⟨w1.heap.size, 1, none⟩) (.inl rfl) _).setCell (p := ⟨w1.heap.size, 2, none⟩) (.inl rfl) _
        have hrd : Rd wd w.heap.size g v ys at' e' := HRC.out.fr hfd (fun h => hgx h.symm) (fun i hi => by have := (HR1.out.2.1.lt i hi).2; omega)
        have hxd : Blk wd w1.heap.size 34 #[.slice a0 ys.length cap0, .int .i64 (at' : Int), .int .i64 e'] := by
          rw [hwd]
          simpa using ((HXC.out.set_ 0 (.slice a0 ys.length cap0)).set_ 1 (.int .i64 (at' : Int))).set_ 2 (.int .i64 e')
        have hbd : Below w.heap.size w wd := (HBr.out.trans (HFC.out.below zr (fun i h => by subst h; exact hg))).trans (hfd.below (by have := HFC.out.size; omega) (fun i h => by subst h; exact zz1))
        have z0 : wd.cell? ⟨w1.heap.size, 1, none⟩ = some (.int .i64 (at' : Int)) := by rw [hxd.cell]; rfl
        have z1' : wd.cell? ⟨w1.heap.size, 2, none⟩ = some (.int .i64 e') := by rw [hxd.cell]; rfl
        have hz : wd.cell? ⟨w1.heap.size, 1, none⟩ = some (.int .i64 (at' : Int)) ∧ wd.cell? ⟨w1.heap.size, 2, none⟩ = some (.int .i64 e') := ⟨z0, z1'⟩
        have HZ := Lib.hid hz
        have hat2 : at' ≤ ys.length := hrd.2.2
        have hwr : IntKind.i64.wrap ((ys.length : Int) - (at' : Int)) = (ys.length : Int) - (at' : Int) := IntWalk.i64_in _ (by omega)
        have HRD := Lib.hid hrd
        have HXD := Lib.hid hxd
        have HBD := Lib.hid hbd
        clear hwd hfd hrd hxd hbd hz y0 y1 y2 c0 c1 c2 f0 f1 f2
        go_region_held3 (fun w' => w'.cell? ⟨w1.heap.size, 1, none⟩ = some (.int .i64 (at' : Int)) ∧ w'.cell? ⟨w1.heap.size, 2, none⟩ = some (.int .i64 e'))
          (first | (exact HZ.out))
          (first
            | (go_simp; go_at_call 16; refine (rd_at w.heap.size g v ys at' e' _ (by exact HRD.out)).mono ?_; rintro en wa ⟨rfl, rfl⟩)
            | (go_simp; go_at_call 17; refine (rd_err w.heap.size g v ys at' e' _ (by exact HRD.out)).mono ?_; rintro en wa ⟨rfl, rfl⟩)
            | (go_simp; go_at_call 18; refine (rd_left w.heap.size g v ys at' e' _ (by exact HRD.out) HLEN.out).mono ?_; rintro en wa ⟨rfl, nk, rfl⟩))
        go_wp2_with fail
        exact ⟨⟨i + 1, at', e', by go_num, by omega, by omega, by exact HRD.out, by exact HXD.out, below_drews HBD.out _⟩, by simp [intOf]; omega⟩
    · have hatr : at_ ≤ ys.length := HRr.out.2.2
      have x1 : wr.cell? ⟨w1.heap.size, 1, none⟩ = some (.int .i64 (at_ : Int)) := by rw [HXr.out.cell]; rfl
      have x2 : wr.cell? ⟨w1.heap.size, 2, none⟩ = some (.int .i64 e) := by rw [HXr.out.cell]; rfl
      by_cases he : e = 0
      · subst he
        by_cases hat : at_ < ys.length
        · have HAT := Lib.hid hat
          by_cases hi : i < len1
          all_goals
            go_wp2_with fail
            refine (rd_end_form _ _ _ _ _ _ HRr.out HLEN.out HAT.out).mono ?_
            rintro en wa ⟨rfl, ka, hR, hf⟩
            have hba : Below w.heap.size wr wa := ((Fr.refl _ wr).drewN ka |>.trans hf (fun _ _ h => h)).below (by omega) (fun i h => by subst h; exact hg)
            have HBA := Lib.hid (HBr.out.trans hba)
            have HRA := Lib.hid hR
            clear hba hf hR
            go_wp2_with fail
            refine (rd_err _ _ _ _ _ _ _ HRA.out).mono ?_
            rintro en wb ⟨rfl, rfl⟩
            go_wp2_with fail
            refine (lives_any _).mono ?_
            rintro en wj ⟨rfl, hbj⟩
            go_wp2_with fail
            go_ret
            exact ⟨rfl, HBA.out.trans (hbj.mono (by have := HBA.out.size; omega))⟩
        · have hate : at_ = ys.length := by omega
          have HAT := Lib.hid hate
          by_cases hi : i < len1
          all_goals
            go_wp2_with fail
            refine (rd_end_ok _ _ _ _ _ _ HRr.out HLEN.out HAT.out).mono ?_
            rintro en wa ⟨rfl, ka, rfl⟩
            have HBA := Lib.hid (below_drews HBr.out ka)
            have HRA := Lib.hid (HRr.out.drewN ka)
            go_wp2_with fail
            refine (rd_err _ _ _ _ _ _ _ HRA.out).mono ?_
            rintro en wb ⟨rfl, rfl⟩
            go_wp2_with fail
            refine (lives_any _).mono ?_
            rintro en wj ⟨rfl, hbj⟩
            go_wp2_with fail
            go_ret
            exact ⟨rfl, HBA.out.trans (hbj.mono (by have := HBA.out.size; omega))⟩
      · have HE := Lib.hid he
        have he' : (e == 0) = false := by simpa using he
        clear he
        by_cases hi : i < len1
        all_goals
          go_wp2_with fail
          refine (rd_end_stop _ _ _ _ _ _ _ HRr.out HE.out HLEN.out).mono ?_
          rintro en wa ⟨rfl, hR, hf⟩
          have hba : Below w.heap.size wr wa := hf.below (by omega) (fun i h => by subst h; exact hg)
          have HBA := Lib.hid (HBr.out.trans hba)
          have HRA := Lib.hid hR
          clear hba hf hR
          go_wp2_with fail
          refine (rd_err _ _ _ _ _ _ _ HRA.out).mono ?_
          rintro en wb ⟨rfl, rfl⟩
          go_wp2_with fail
          refine (lives_any _).mono ?_
          rintro en wj ⟨rfl, hbj⟩
          go_wp2_with fail
          go_ret
          exact ⟨rfl, HBA.out.trans (hbj.mono (by have := HBA.out.size; omega))⟩
set_option maxRecDepth 100000 in
theorem lifted (os : Os) (started : os.Started) (H : Type) (enc : TypeId × Value → H) :
    ReturnsInHanded {} Try.checked os 4 .any (Rows.wireReadsSpec.pre6 enc Try.prog Try.f4 Rows.wireReadsRow.domain false) (Rows.wireReadsSpec.post enc Try.prog Try.f4 false true false false) := by
  refine returnsInHanded_of_change (C := Try.checked) own started (by kernel_rfl) Try.func4
    (ChangeSpec.witness6 (enc := enc) (C := Try.checked) false ⟨#[], #[.slice none 0 0, .slice none 0 0], []⟩ 8 (by kernel_rfl) (by kernel_rfl) (by kernel_rfl) (by kernel_rfl)) ?_
  intro W base args ds gs before hval0 hW hcnd _
  have hval : ∀ (j : Nat) t v, Try.f4.params[j]? = some t → args[j]? = some v → Value.okWide Try.prog W .any base t v := hval0
  have hW' := hW
  obtain ⟨p, q, hA0, hV, rfl, hfz, hnd⟩ := hW
  have hA : DataW.TrodAll enc Try.prog W 0 (fun _ => true) true Try.f4.params.toList args.toList ds p := hA0
  rw [Try.params4] at hA hval
  obtain ⟨v0, vs0, d0, ds0, p0, q0, hargs, rfl, rfl, h0, r0⟩ := trodAll_cons hA
  obtain ⟨v1, vs1, d1, ds1, p1, q1, rfl, rfl, rfl, h1, r1⟩ := trodAll_cons r0
  obtain ⟨rfl, rfl, rfl⟩ := trodAll_nil r1
  obtain rfl : args = #[v0, v1] := by cases args; simp_all
  obtain ⟨rfl, rfl⟩ := trodVars_none hV
  obtain ⟨a0, len0, cap0, rfl⟩ := okWide_slice Try.underlying23 (hval 0 23 v0 rfl rfl)
  have k0 := h0
  have lt0 : ∀ x ∈ p0, x.block < W.heap.size := by obtain ⟨m, hm⟩ := k0; exact DataW.trod_lt m _ _ _ hm
  obtain ⟨z0, w0⟩ : ∃ zs, IsRow .u8 W a0 len0 cap0 zs := by
    obtain ⟨fuel, hf⟩ := h0
    rcases open_ints Try.underlying23 Try.underlying5 (by kernel_rfl) hf with ⟨hcs, _⟩ | ⟨x, l, c, zs, hcs, _, hl, hm, hz, _, hcell, hwz⟩
    · simp [Value.cells] at hcs
      obtain ⟨rfl, rfl, rfl⟩ := hcs
      exact ⟨[], .inl ⟨rfl, rfl, rfl, rfl⟩⟩
    · simp [Value.cells] at hcs
      obtain ⟨rfl, rfl, rfl⟩ := hcs
      exact ⟨zs, .inr ⟨_, rfl, hl, hm, by simpa using hz, hcell, hwz⟩⟩
  obtain ⟨a1, len1, cap1, rfl⟩ := okWide_slice Try.underlying22 (hval 1 22 v1 rfl rfl)
  have k1 := h1
  have lt1 : ∀ x ∈ p1, x.block < W.heap.size := by obtain ⟨m, hm⟩ := k1; exact DataW.trod_lt m _ _ _ hm
  obtain ⟨z1, w1⟩ := puts_open h1
  clear hA0 hval0
  refine (walk a0 len0 cap0 z0 a1 len1 cap1 z1 W w0 w1).mono fun e W' ⟨he, bel⟩ => ?_
  subst he
  exact ⟨_, rfl, _, _, _, [], _, [], hW', trodAll_mk1 (shut_bool Try.underlying4 _), (trodAll_cons_mk (Below.trod laidOut (by kernel_rfl) (of_decide_eq_true (by kernel_rfl)) k0 bel lt0) (trodAll_cons_mk (Below.trod laidOut (by kernel_rfl) (of_decide_eq_true (by kernel_rfl)) k1 bel lt1) trodAll_mk0)), rfl, bel.frame _, fun h => by cases h⟩

theorem over : Rows.wireReadsRow.holds Try.pinned (OpenSpec.ofChange Rows.wireReadsSpec) :=
  OpenClaim.holds_of_wide 4 Try.f4 rfl rfl rfl rfl rfl rfl rfl ⟨rfl, rfl, rfl, rfl, rfl⟩ rfl rfl rfl rfl rfl (by kernel_rfl) Try.func4 (by kernel_rfl)
    (of_decide_eq_true (by kernel_rfl)) (by unfold Func.isWrapper; first | (rw [if_pos (by decide +kernel)]; kernel_rfl) | (rw [if_neg (by decide +kernel)]; exact ⟨rfl, rfl⟩))
    (fun os started H enc _ => lifted os started H enc)

theorem proved : Rows.WireReadsSaid := over
#print axioms proved
end Go.Proofs.Ytnhibnjgdkpomaa.wireReads
