/-
  What a Reader's Fixed tells where that many bytes stand at the place.
-/
import Derived.Test.YtnhibnjgdkpomaaRdText
import Derived.RegionTactic
import Derived.ChangeAlike
namespace Go.Proofs.Ytnhibnjgdkpomaa
open Go.RowKit Plain

theorem apart_u64 {w : World} {BB n cv : Nat} {A : Option Addr} {xs : List Nat} {x : Int} {t : TypeId} (hr : Reads w BB 1 A n (BS xs)) (hb : Blk w cv t #[.int .u64 x]) {k : Nat} (hk : k < n) {ad : Addr} (ha : A = some ad) : (ad.add k).block ≠ cv := by
  intro he
  obtain ⟨ad', u, h, _, hu, hc⟩ := hr.at_ hk
  rw [ha] at h
  injection h with h
  subst h
  simp [BS, B] at hu
  obtain ⟨y, _, rfl⟩ := hu
  have hs := World.cell?_spot hc
  rw [show ad.add k = ⟨cv, (ad.add k).off, none⟩ by rw [← he, ← hs], hb.cell] at hc
  rcases Nat.eq_zero_or_pos (ad.add k).off with h0 | h0
  · rw [h0] at hc; simp at hc
  · rw [Array.getElem?_eq_none (by simp; omega)] at hc; cases hc

def FxRel (w : World) (cv : Nat) (xs : List Nat) (m : Nat) (s : Value) (wr : World) : Prop :=
  ∃ k V : Nat, s = .int .i64 (k : Int) ∧ k ≤ m ∧ Hid (V = leV (xs.take k)) ∧ Blk wr cv 43 #[.int .u64 (V : Int)] ∧ Fr (fun i => i = cv) w wr

set_option maxRecDepth 100000 in
set_option maxHeartbeats 1000000 in
theorem cl_fixed_yes (xs : List Nat) (n : Nat) (hl : xs.length = n) (hx : ∀ x ∈ xs, x < 256) (A : Option Addr) (c : Nat) (cn cv m : Nat) (w : World) (BB : Nat) (hr : Reads w BB 1 A n (BS xs)) (hB : BB ≤ w.heap.size) (_hn : n ≤ 140737488355328) (hnc : n ≤ c) (hmn : m ≤ n) (hm8 : m ≤ 8)
    (hcn : Blk w cn 3 #[.int .i64 (m : Int)]) (hcb : Blk w cv 43 #[.int .u64 0]) :
    Calls Try.prog 48 #[.slice A n c, .pointer (some ⟨cn, 0, none⟩), .pointer (some ⟨cv, 0, none⟩)] w fun en w1 =>
      en = .returned (.tuple #[.int .i64 (m : Int), .int .i64 ((0 : Nat) : Int)]) ∧ Blk w1 cv 43 #[.int .u64 (leV (xs.take m) : Int)] ∧ Fr (fun i => i = cv) w w1 := by
  have hc : w.cell? ⟨cn, 0, none⟩ = some (.int .i64 (m : Int)) := by rw [hcn.cell]; rfl
  have hne : cn ≠ cv := Blk.ne_ hcn hcb (by decide)
  have HR := Lib.hid hr
  have HX := Lib.hid hx
  have HL := Lib.hid hl
  have HB := Lib.hid hcb
  have HN := Lib.hid hcn
  clear hr hx hl hcb hcn
  go_enter Try.func48, Try.ntmps48
  go_wp2_with fail
  go_loopw [16] (fun s wr => FxRel w cv xs m s wr) (fun s _ => m - (intOf s).toNat)
  case atStart => exact ⟨0, 0, rfl, by omega, rfl, HB.out, Fr.refl _ _⟩
  case round =>
    obtain ⟨k, V, rfl, hk, hV, hblk, hfr⟩ := hrel
    have hcV : wr.cell? ⟨cv, 0, none⟩ = some (.int .u64 (V : Int)) := by rw [hblk.cell]; rfl
    have hfV := hblk.frozen 0
    have hcn1 : wr.cell? ⟨cn, 0, none⟩ = some (.int .i64 (m : Int)) := by rw [(hfr.blk HN.out hne).cell]; rfl
    have HBK := Lib.hid hblk
    have HFR := Lib.hid hfr
    clear hblk hfr hc
    by_cases hlt : k < m
    · obtain ⟨ad, u, rfl, hbl, hu, hcell⟩ := HR.out.at_ (show k < n by omega)
      have hap := apart_u64 HR.out HB.out (show k < n by omega) rfl
      have hcell' : wr.cell? (ad.add k) = some u := (HFR.out.cell (by rw [block_of_add]; omega) hap).trans hcell
      obtain ⟨x, hx, rfl⟩ : ∃ x : Nat, xs[k]? = some x ∧ .int .u8 (x : Int) = u := by
        simp [BS, B] at hu
        exact hu
      have hx256 : x < 256 := HX.out x (List.mem_of_getElem? hx)
      have hxlt : k < xs.length := (List.getElem?_eq_some_iff.1 hx).1
      have hts : leV (xs.take (k + 1)) = V + x * 256 ^ k := by
        rw [List.take_succ_eq_append_getElem hxlt, leV_snoc, ← hV.out, List.length_take, Nat.min_eq_left (by omega)]
        rw [List.getElem?_eq_getElem hxlt] at hx
        injection hx with hx
        rw [hx]
      have hVl : V < 256 ^ k := by
        have := leV_lt (xs.take k) (fun y hy => HX.out y (List.mem_of_mem_take hy))
        rw [List.length_take, Nat.min_eq_left (by omega)] at this
        rw [hV.out]; exact this
      have hor := u64_or_shl V x k hVl hx256 (by omega)
      obtain ⟨V2, hV2⟩ : ∃ V2, V2 = V + x * 256 ^ k := ⟨_, rfl⟩
      rw [← hV2] at hor hts
      have HTS := Lib.hid hts
      clear hu hcell hx hts hVl hV2 hap hxlt
      go_wp2_with fail
      go_region
      all_goals go_wp2_with fail
      exact ⟨⟨k + 1, V2, by go_num, by omega, HTS.out.symm, by simpa using (HBK.out.set_ 0 (.int .u64 (V2 : Int))).drew, (HFR.out.setCell (p := ⟨cv, 0, none⟩) (.inl rfl) _).drew⟩, by simp [intOf]; omega⟩
    · obtain rfl : k = m := by omega
      go_wp2_with fail
      go_ret2
      exact ⟨rfl, by rw [← hV.out]; exact HBK.out, HFR.out⟩

set_option maxHeartbeats 400000 in
theorem rd_fixed_yes (base g : Nat) (v : Value) (bs : List Nat) (at_ m : Nat) (w : World) (hR : Rd w base g v bs at_ 0) (hx : ∀ x ∈ bs, x < 256) (hlen : bs.length ≤ 140737488355328) (hm : Wide m) (hN : at_ + m ≤ bs.length) :
    Calls Try.prog 21 #[.pointer (some ⟨g, 0, none⟩), .int .i64 (m : Int)] w fun en w' =>
      en = .returned (.int .u64 (leV ((bs.drop at_).take m) : Int)) ∧ RdStep base g v bs (at_ + m, 0) w w' := by
  have HR := Lib.hid hR
  have HM := Lib.hid hm
  have HX := Lib.hid hx
  have hm8 : m ≤ 8 := by rcases hm with h | h | h | h <;> omega
  clear hR hm hx
  go_enter Try.func21, Try.ntmps21
  go_wp2_with fail
  refine (isWidth_yes m _ HM.out).mono ?_
  rintro en w1 ⟨rfl, rfl⟩
  go_wp2_with fail
  refine (read_with base g (w.heap.size + 1) v (.int .u64 0) (.int .u64 (leV ((bs.drop at_).take m) : Int)) 43 bs at_ 0 _ ((HR.out.alloc _).alloc _) (by simpa using Blk.new (w.alloc (.cells #[.int .i64 (m : Int)] 3)) _ _) (by decide) (by decide)
    48 #[.pointer (some ⟨w.heap.size, 0, none⟩), .pointer (some ⟨w.heap.size + 1, 0, none⟩)]
    (fun args W => by go_simp) hlen m 0 (fun _ A n c h1 h2 h3 => 
      (cl_fixed_yes (bs.drop at_) n (by rw [List.length_drop]; omega) (fun x hx => HX.out x (List.mem_of_mem_drop hx)) A c w.heap.size (w.heap.size + 1) m _ _ h2 (by simp) (by omega) h3 (by omega) hm8 (((Blk.new w _ _).alloc _).drew) (by simpa using Blk.drew (Blk.new (w.alloc (.cells #[.int .i64 (m : Int)] 3)) _ _))).mono ?_) hN).mono ?_
  · rintro en w1 ⟨rfl, h4, h5⟩
    exact ⟨rfl, h4, ((Fr.refl _ _).drew).trans h5 (fun _ _ h => h)⟩
  rintro en w' ⟨rfl, h4, h6, h5⟩
  generalize hV : (leV ((bs.drop at_).take m)) = V at h6
  have hc5 : w'.cell? ⟨w.heap.size + 1, 0, none⟩ = some (.int .u64 (V : Int)) := by rw [h6.cell]; rfl
  have H4 := Lib.hid h4
  have H5 := Lib.hid h5
  have HV := Lib.hid hV
  clear h4 h5 h6 hV
  go_wp2_with fail
  go_ret
  exact ⟨by rw [HV.out]; rfl, RdStep.of_new2 H4.out H5.out⟩
end Go.Proofs.Ytnhibnjgdkpomaa
