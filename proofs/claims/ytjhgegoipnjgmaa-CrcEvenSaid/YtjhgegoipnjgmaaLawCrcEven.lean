/-
  Proved here: CrcEven returns true for every input: of three texts of one length the sum of their bytes' exclusive or is the exclusive or of their sums.
-/
import Derived.Test.YtjhgegoipnjgmaaRows
import Derived.WalkKit
import Derived.ProofKit
import Derived.OpenShut
import Derived.ShutString
import Derived.ChangeOld
import Derived.Below
import Derived.WalkLawsBesides
import Derived.Deep.RegionHeld3
import Derived.Deep.DrawnRows
import Derived.Test.YtjhgegoipnjgmaaCrcOpen
import Derived.Test.YtjhgegoipnjgmaaCrcLaw
import Derived.Test.YtjhgegoipnjgmaaCrcEven
namespace Go.Proofs.Ytjhgegoipnjgmaa.crcEven
open Go.ChangeShapes Go.WideShapes Go.ChangeAt Go.RowKit Go.Proofs.Ytjhgegoipnjgmaa Go.Proofs.Ytjhgegoipnjgmaa.Plain
open Go.ChangeMaps (open_string shut_string)
set_option linter.unusedVariables false

theorem own : ownKnob Try.prog.godebug = none := by kernel_rfl
attribute [local go_sem ↓] Go.wp_at_zero Go.wp_at_succ

theorem laidOut : laidOutB Try.prog = true := by kernel_rfl

theorem run_min4 (la lb lc n : Nat) (hn : n = min (min (min la lb) lc) 200) (ts : Array TypeId) (ty : TypeId) (W : World) :
    (Builtin.min_ ts ty #[.int .i64 (la : Int), .int .i64 (lb : Int), .int .i64 (lc : Int), .int .i64 200]).run Try.prog W = .ok (.int .i64 (n : Int)) W := by
  simp [Builtin.min_, Builtin.min2]
  split <;> split <;> split <;> omega

def EvenRel (w : World) (xa xb xc : List Nat) (k : Nat) (o : Value) (wr : World) : Prop :=
  ∃ A c, o = .slice A k c ∧ wr.ownsRow w.heap.size 5 1 (.slice A k c) k (BS (xor3 (xa.take k) (xb.take k) (xc.take k))) ∧ Below w.heap.size w wr

theorem at_byte {xs : List Nat} {k : Nat} (h : k < xs.length) {v : Value} (hu : (BS xs)[k]? = some v) : v = .int .u8 ((xs[k] : Nat) : Int) := by
  simp only [BS, List.getElem?_map, List.getElem?_eq_getElem h, Option.map_some, Option.some.injEq] at hu
  rw [← hu]; rfl

set_option maxRecDepth 100000 in
set_option maxHeartbeats 8000000 in
theorem walk (a0 : Option Addr) (len0 cap0 : Nat) (z0 : List Int) (a1 : Option Addr) (len1 cap1 : Nat) (z1 : List Int) (a2 : Option Addr) (len2 cap2 : Nat) (z2 : List Int) (w : World) (w0 : IsRow .u8 w a0 len0 cap0 z0) (w1 : IsRow .u8 w a1 len1 cap1 z1) (w2 : IsRow .u8 w a2 len2 cap2 z2) :
    Calls Try.prog 7 #[.slice a0 len0 cap0, .slice a1 len1 cap1, .slice a2 len2 cap2] w fun e w' => e = .returned (.bool true) ∧ Below w.heap.size w w' := by
  obtain ⟨i0, hi0, hz0, hz1, hz2⟩ := info_parts info_byte
  obtain ⟨ya, hla, hxa, hra, hca, _⟩ := row_reads w0
  obtain ⟨yb, hlb, hxb, hrb, hcb, _⟩ := row_reads w1
  obtain ⟨yc, hlc, hxc, hrc, hcc, _⟩ := row_reads w2
  obtain ⟨n, hn⟩ : ∃ n, n = min (min (min len0 len1) len2) 200 := ⟨_, rfl⟩
  have hmin := run_min4 len0 len1 len2 n hn
  have hn200 : n ≤ 200 := by omega
  have hn0 : n ≤ len0 := by omega
  have hn1 : n ≤ len1 := by omega
  have hn2 : n ≤ len2 := by omega
  have hra' := hra.take hn0
  have hrb' := hrb.take hn1
  have hrc' := hrc.take hn2
  have hxa' : ∀ x ∈ ya.take n, x < 256 := fun x h => hxa x (List.mem_of_mem_take h)
  have hxb' : ∀ x ∈ yb.take n, x < 256 := fun x h => hxb x (List.mem_of_mem_take h)
  have hxc' : ∀ x ∈ yc.take n, x < 256 := fun x h => hxc x (List.mem_of_mem_take h)
  have hla' : (ya.take n).length = n := List.length_take_of_le (by omega)
  have hlb' : (yb.take n).length = n := List.length_take_of_le (by omega)
  have hlc' : (yc.take n).length = n := List.length_take_of_le (by omega)
  clear hra hrb hrc hxa hxb hxc hla hlb hlc hn w0 w1 w2
  generalize ya.take n = xa at *
  generalize yb.take n = xb at *
  generalize yc.take n = xc at *
  have HLA := Lib.hid hla'; have HLB := Lib.hid hlb'; have HLC := Lib.hid hlc'
  have HXA := Lib.hid hxa'; have HXB := Lib.hid hxb'; have HXC := Lib.hid hxc'
  have HRA := Lib.hid hra'; have HRB := Lib.hid hrb'; have HRC := Lib.hid hrc'
  clear hla' hlb' hlc' hxa' hxb' hxc' hra' hrb' hrc'
  go_enter Try.func7, Try.ntmps7
  go_wp2_with fail
  go_loopw [8, 9] (fun o i wr => ∃ k : Nat, k ≤ n ∧ i = .int .i64 (k : Int) ∧ EvenRel w xa xb xc k o wr) (fun _ i _ => n - (intOf i).toNat)
  case atStart => exact ⟨0, by omega, rfl, none, 0, rfl, World.ownsRow_nil _ _ _ _, Below.refl _ _⟩
  case round =>
    obtain ⟨k, hk, rfl, A, c, rfl, hown, hbel⟩ := hrel
    have zr := hbel.size
    have HO := Lib.hid hown
    have HB := Lib.hid hbel
    by_cases hlt : k < n
    · obtain ⟨ad0, v0, rfl, hd0, hu0, hc0⟩ := HRA.out.at_ hlt
      obtain ⟨ad1, v1, rfl, hd1, hu1, hc1⟩ := HRB.out.at_ hlt
      obtain ⟨ad2, v2, rfl, hd2, hu2, hc2⟩ := HRC.out.at_ hlt
      have ka : k < xa.length := by rw [HLA.out]; exact hlt
      have kb : k < xb.length := by rw [HLB.out]; exact hlt
      have kc : k < xc.length := by rw [HLC.out]; exact hlt
      obtain rfl := at_byte ka hu0
      obtain rfl := at_byte kb hu1
      obtain rfl := at_byte kc hu2
      obtain ⟨p, hp⟩ : ∃ p, p = xa[k] := ⟨_, rfl⟩
      obtain ⟨q, hq⟩ : ∃ q, q = xb[k] := ⟨_, rfl⟩
      obtain ⟨s, hs⟩ : ∃ s, s = xc[k] := ⟨_, rfl⟩
      rw [← hp] at hc0; rw [← hq] at hc1; rw [← hs] at hc2
      have p256 : p < 256 := by rw [hp]; exact HXA.out _ (List.getElem_mem _)
      have q256 : q < 256 := by rw [hq]; exact HXB.out _ (List.getElem_mem _)
      have s256 : s < 256 := by rw [hs]; exact HXC.out _ (List.getElem_mem _)
      obtain ⟨pq, hpq⟩ : ∃ pq, pq = p ^^^ q := ⟨_, rfl⟩
      have pq256 : pq < 256 := by rw [hpq]; exact Nat.xor_lt_two_pow (n := 8) p256 q256
      obtain ⟨x, hx⟩ : ∃ x, x = pq ^^^ s := ⟨_, rfl⟩
      have e1 := u8_xor_nat p q p256 q256
      rw [← hpq] at e1
      have e2 := u8_xor_nat pq s pq256 s256
      rw [← hx] at e2
      have hsn : xor3 (xa.take (k + 1)) (xb.take (k + 1)) (xc.take (k + 1)) = xor3 (xa.take k) (xb.take k) (xc.take k) ++ [x] := by
        have la : (xa.take k).length = k := List.length_take_of_le (by omega)
        have lb : (xb.take k).length = k := List.length_take_of_le (by omega)
        have lc : (xc.take k).length = k := List.length_take_of_le (by omega)
        rw [List.take_succ_eq_append_getElem ka, List.take_succ_eq_append_getElem kb, List.take_succ_eq_append_getElem kc, xor3_snoc _ _ _ _ _ _ (by rw [la, lb]) (by rw [la, lc]), hx, hpq, hp, hq, hs]
      have c0 : wr.cell? (ad0.add k) = some (.int .u8 (p : Int)) := (hbel.cell (by rw [block_of_add]; exact hd0)).trans hc0
      have c1 : wr.cell? (ad1.add k) = some (.int .u8 (q : Int)) := (hbel.cell (by rw [block_of_add]; exact hd1)).trans hc1
      have c2 : wr.cell? (ad2.add k) = some (.int .u8 (s : Int)) := (hbel.cell (by rw [block_of_add]; exact hd2)).trans hc2
      have i3 : (0 : Int) ≤ (k : Int) := by omega
      have i4 : (k : Int) < (len0 : Int) := by omega
      have i5 : (k : Int) < (len1 : Int) := by omega
      have i6 : (k : Int) < (len2 : Int) := by omega
      have HSN := Lib.hid hsn; have HC0 := Lib.hid hc0; have HC1 := Lib.hid hc1; have HC2 := Lib.hid hc2
      have b0 : (ad0.add k).block < wr.heap.size := World.block_lt_of_cell? _ _ c0
      have b1 : (ad1.add k).block < wr.heap.size := World.block_lt_of_cell? _ _ c1
      have b2 : (ad2.add k).block < wr.heap.size := World.block_lt_of_cell? _ _ c2
      clear hown hbel hu0 hu1 hu2 hc0 hc1 hc2 hp hq hs hpq hx hsn
      go_wp2_with fail
      go_region_held3 (fun w' => w'.cell? (ad0.add k) = some (.int .u8 (p : Int)) ∧ w'.cell? (ad1.add k) = some (.int .u8 (q : Int)) ∧ w'.cell? (ad2.add k) = some (.int .u8 (s : Int)))
        (first | go_keep | (exact ⟨(World.cell?_alloc_lt _ _ _ b0).trans c0, (World.cell?_alloc_lt _ _ _ b1).trans c1, (World.cell?_alloc_lt _ _ _ b2).trans c2⟩) | (exact ⟨q0, q1, q2⟩) | trivial)
        ((refine step_append_any _ (by rfl) (.tmp 22) (.tmp 37) _ (by rfl) w.heap.size 5 i0 _ 1 1 Try.underlying22 hi0 hz0 hz1 hz2 rfl (by decide) (.slice A k c) k (BS (xor3 (xa.take k) (xb.take k) (xc.take k))) (by rfl) ((HO.out.alloc _).drew) (wr.heap.size + 1) (some ⟨wr.heap.size, 0, none⟩) 1 1 (BS [x]) (by rfl) (reads_one wr x _).drew (BS_one _) (by unfold maxLen; omega) (by omega) (by simp; omega) ?_
          intro v3 w3 hown3 hg3 hat3
          have hbe3 : Below w.heap.size w w3 := ((HB.out.alloc zr _).drew).grown hg3 (by simp; omega) (fun k hk => (HO.out.lt k hk).1)
          have q0 := (hbe3.cell (by rw [block_of_add]; exact hd0)).trans HC0.out
          have q1 := (hbe3.cell (by rw [block_of_add]; exact hd1)).trans HC1.out
          have q2 := (hbe3.cell (by rw [block_of_add]; exact hd2)).trans HC2.out))
      obtain ⟨A3, c3, rfl, _⟩ := reads_own hown3
      rw [BS_append, ← HSN.out] at hown3
      have HO3 := Lib.hid hown3; have HBE3 := Lib.hid hbe3
      clear hown3 hg3 hat3 hbe3 q0 q1 q2
      go_wp2_with fail
      exact ⟨⟨k + 1, by omega, by go_num, A3, c3, rfl, HO3.out, HBE3.out⟩, by simp [intOf]; omega⟩
    · obtain rfl : k = n := by omega
      have ta : xa.take k = xa := List.take_of_length_le (by rw [HLA.out]; omega)
      have tb : xb.take k = xb := List.take_of_length_le (by rw [HLB.out]; omega)
      have tc : xc.take k = xc := List.take_of_length_le (by rw [HLC.out]; omega)
      rw [ta, tb, tc] at hown
      have hlx : (xor3 xa xb xc).length = k := by rw [xor3_length xa xb xc (by rw [HLA.out, HLB.out]) (by rw [HLA.out, HLC.out]), HLA.out]
      have hxx := xor3_lt xa xb xc HXA.out HXB.out HXC.out
      have hsum := crcL_xor3 xa xb xc (by rw [HLA.out, HLB.out]) (by rw [HLA.out, HLC.out]) HXA.out HXB.out HXC.out
      have hra : Reads wr wr.heap.size 1 a0 k (BS xa) := (HRA.out.below hbel).more zr
      have hrb : Reads wr wr.heap.size 1 a1 k (BS xb) := (HRB.out.below hbel).more zr
      have hrc : Reads wr wr.heap.size 1 a2 k (BS xc) := (HRC.out.below hbel).more zr
      have hrx : Reads wr wr.heap.size 1 A k (BS (xor3 xa xb xc)) := Reads.of_own hown
      generalize xor3 xa xb xc = xx at *
      obtain ⟨ca, eca⟩ : ∃ ca, ca = crcL xa := ⟨_, rfl⟩
      obtain ⟨cb, ecb⟩ : ∃ cb, cb = crcL xb := ⟨_, rfl⟩
      obtain ⟨cc, ecc⟩ : ∃ cc, cc = crcL xc := ⟨_, rfl⟩
      obtain ⟨cx, ecx⟩ : ∃ cx, cx = crcL xx := ⟨_, rfl⟩
      obtain ⟨cab, ecab⟩ : ∃ cab, cab = ca ^^^ cb := ⟨_, rfl⟩
      have l1 : ca < 4294967296 := by rw [eca]; exact crcL_lt _
      have l2 : cb < 4294967296 := by rw [ecb]; exact crcL_lt _
      have l3 : cc < 4294967296 := by rw [ecc]; exact crcL_lt _
      have l4 : cab < 4294967296 := by rw [ecab]; exact Nat.xor_lt_two_pow (n := 32) l1 l2
      have e1 := u32_xor_nat ca cb l1 l2
      rw [← ecab] at e1
      have e2 := u32_xor_nat cab cc l4 l3
      rw [← eca, ← ecb, ← ecc, ← ecx, ← ecab] at hsum
      rw [hsum] at e2
      have step (xs : List Nat) (A : Option Addr) (c s : Nat) (hl : xs.length = k) (hx : ∀ x ∈ xs, x < 256) (hr : Reads wr wr.heap.size 1 A k (BS xs)) (hs : s = crcL xs) (W : World) (hW : Below wr.heap.size wr W) :
          Calls Try.prog 15 #[.slice A k c] W fun e w' => e = .returned (.int .u32 (s : Int)) ∧ Below wr.heap.size wr w' :=
        (of_any W xs k hl hx wr.heap.size A c (hr.below hW |>.more (Nat.le_refl _)) hW.size (by omega)).mono fun e w' ⟨he, hb⟩ => ⟨by rw [he, hs], hW.trans (hb.mono hW.size)⟩
      have HA := Lib.hid (fun W hW c => step xa a0 c ca HLA.out HXA.out hra eca W hW)
      have HBb := Lib.hid (fun W hW c => step xb a1 c cb HLB.out HXB.out hrb ecb W hW)
      have HCc := Lib.hid (fun W hW c => step xc a2 c cc HLC.out HXC.out hrc ecc W hW)
      have HXx := Lib.hid (fun W hW c => step xx A c cx hlx hxx hrx ecx W hW)
      have i3 : (0 : Int) ≤ (k : Int) := by omega
      have i4 : (k : Int) ≤ (cap0 : Int) := by omega
      have i5 : (k : Int) ≤ (cap1 : Int) := by omega
      have i6 : (k : Int) ≤ (cap2 : Int) := by omega
      clear step hra hrb hrc hrx hxx hlx hsum eca ecb ecc ecx ecab hown hbel ta tb tc HO
      go_wp2_with fail
      go_region_held3 (fun w' => Below wr.heap.size wr w')
        (first | assumption | (exact Below.refl _ _) | (exact (Below.refl _ _).drew) | (exact hbq) | (exact hbq.drew))
        (first
          | (go_simp; go_at_call 15; first
            | ((with_reducible refine (HXx.out _ ?_ _).mono ?_); (first | (exact hbq) | (exact (Below.refl _ _).drew)); rintro e wq ⟨rfl, hbq⟩)
            | ((with_reducible refine (HA.out _ ?_ _).mono ?_); (first | (exact hbq) | (exact (Below.refl _ _).drew)); rintro e wq ⟨rfl, hbq⟩)
            | ((with_reducible refine (HBb.out _ ?_ _).mono ?_); (first | (exact hbq) | (exact (Below.refl _ _).drew)); rintro e wq ⟨rfl, hbq⟩)
            | ((with_reducible refine (HCc.out _ ?_ _).mono ?_); (first | (exact hbq) | (exact (Below.refl _ _).drew)); rintro e wq ⟨rfl, hbq⟩))
          | (go_simp; go_at_call 17; refine (crc_lives _).mono ?_; rintro e wl ⟨rfl, hbl⟩; have hbq := hbq.trans (hbl.mono hbq.size)))
      all_goals
        have HBQ := Lib.hid hbq
        clear hbq
        go_wp2_with fail
        go_ret
        exact ⟨rfl, HB.out.trans (HBQ.out.mono zr)⟩

set_option maxRecDepth 100000 in
theorem lifted (os : Os) (started : os.Started) (H : Type) (enc : TypeId × Value → H) :
    ReturnsInHanded {} Try.checked os 7 .any (Rows.crcEvenSpec.pre6 enc Try.prog Try.f7 Rows.crcEvenRow.domain false) (Rows.crcEvenSpec.post enc Try.prog Try.f7 false true false false) := by
  refine returnsInHanded_of_change (C := Try.checked) own started (by kernel_rfl) Try.func7
    (ChangeSpec.witness6 (enc := enc) (C := Try.checked) false ⟨#[], #[.slice none 0 0, .slice none 0 0, .slice none 0 0], []⟩ 8 (by kernel_rfl) (by kernel_rfl) (by kernel_rfl) (by kernel_rfl)) ?_
  intro W base args ds gs before hval0 hW hcnd _
  have hval : ∀ (j : Nat) t v, Try.f7.params[j]? = some t → args[j]? = some v → Value.okWide Try.prog W .any base t v := hval0
  have hW' := hW
  obtain ⟨p, q, hA0, hV, rfl, hfz, hnd⟩ := hW
  have hA : DataW.TrodAll enc Try.prog W 0 (fun _ => true) true Try.f7.params.toList args.toList ds p := hA0
  rw [Try.params7] at hA hval
  obtain ⟨v0, vs0, d0, ds0, p0, q0, hargs, rfl, rfl, h0, r0⟩ := trodAll_cons hA
  obtain ⟨v1, vs1, d1, ds1, p1, q1, rfl, rfl, rfl, h1, r1⟩ := trodAll_cons r0
  obtain ⟨v2, vs2, d2, ds2, p2, q2, rfl, rfl, rfl, h2, r2⟩ := trodAll_cons r1
  obtain ⟨rfl, rfl, rfl⟩ := trodAll_nil r2
  obtain rfl : args = #[v0, v1, v2] := by cases args; simp_all
  obtain ⟨rfl, rfl⟩ := trodVars_none hV
  obtain ⟨a0, len0, cap0, rfl⟩ := okWide_slice Try.underlying22 (hval 0 22 v0 rfl rfl)
  have k0 := h0
  have lt0 : ∀ x ∈ p0, x.block < W.heap.size := by obtain ⟨m, hm⟩ := k0; exact DataW.trod_lt m _ _ _ hm
  obtain ⟨z0, w0⟩ : ∃ zs, IsRow .u8 W a0 len0 cap0 zs := by
    obtain ⟨fuel, hf⟩ := h0
    rcases open_ints Try.underlying22 Try.underlying5 (by kernel_rfl) hf with ⟨hcs, _⟩ | ⟨x, l, c, zs, hcs, _, hl, hm, hz, _, hcell, hwz⟩
    · simp [Value.cells] at hcs
      obtain ⟨rfl, rfl, rfl⟩ := hcs
      exact ⟨[], .inl ⟨rfl, rfl, rfl, rfl⟩⟩
    · simp [Value.cells] at hcs
      obtain ⟨rfl, rfl, rfl⟩ := hcs
      exact ⟨zs, .inr ⟨_, rfl, hl, hm, by simpa using hz, hcell, hwz⟩⟩
  obtain ⟨a1, len1, cap1, rfl⟩ := okWide_slice Try.underlying22 (hval 1 22 v1 rfl rfl)
  have k1 := h1
  have lt1 : ∀ x ∈ p1, x.block < W.heap.size := by obtain ⟨m, hm⟩ := k1; exact DataW.trod_lt m _ _ _ hm
  obtain ⟨z1, w1⟩ : ∃ zs, IsRow .u8 W a1 len1 cap1 zs := by
    obtain ⟨fuel, hf⟩ := h1
    rcases open_ints Try.underlying22 Try.underlying5 (by kernel_rfl) hf with ⟨hcs, _⟩ | ⟨x, l, c, zs, hcs, _, hl, hm, hz, _, hcell, hwz⟩
    · simp [Value.cells] at hcs
      obtain ⟨rfl, rfl, rfl⟩ := hcs
      exact ⟨[], .inl ⟨rfl, rfl, rfl, rfl⟩⟩
    · simp [Value.cells] at hcs
      obtain ⟨rfl, rfl, rfl⟩ := hcs
      exact ⟨zs, .inr ⟨_, rfl, hl, hm, by simpa using hz, hcell, hwz⟩⟩
  obtain ⟨a2, len2, cap2, rfl⟩ := okWide_slice Try.underlying22 (hval 2 22 v2 rfl rfl)
  have k2 := h2
  have lt2 : ∀ x ∈ p2, x.block < W.heap.size := by obtain ⟨m, hm⟩ := k2; exact DataW.trod_lt m _ _ _ hm
  obtain ⟨z2, w2⟩ : ∃ zs, IsRow .u8 W a2 len2 cap2 zs := by
    obtain ⟨fuel, hf⟩ := h2
    rcases open_ints Try.underlying22 Try.underlying5 (by kernel_rfl) hf with ⟨hcs, _⟩ | ⟨x, l, c, zs, hcs, _, hl, hm, hz, _, hcell, hwz⟩
    · simp [Value.cells] at hcs
      obtain ⟨rfl, rfl, rfl⟩ := hcs
      exact ⟨[], .inl ⟨rfl, rfl, rfl, rfl⟩⟩
    · simp [Value.cells] at hcs
      obtain ⟨rfl, rfl, rfl⟩ := hcs
      exact ⟨zs, .inr ⟨_, rfl, hl, hm, by simpa using hz, hcell, hwz⟩⟩
  clear hA0 hval0
  refine (walk a0 len0 cap0 z0 a1 len1 cap1 z1 a2 len2 cap2 z2 W w0 w1 w2).mono fun e W' ⟨he, bel⟩ => ?_
  subst he
  exact ⟨_, rfl, _, _, _, [], _, [], hW', trodAll_mk1 (shut_bool Try.underlying4 _), (trodAll_cons_mk (Below.trod laidOut (by kernel_rfl) (of_decide_eq_true (by kernel_rfl)) k0 bel lt0) (trodAll_cons_mk (Below.trod laidOut (by kernel_rfl) (of_decide_eq_true (by kernel_rfl)) k1 bel lt1) (trodAll_cons_mk (Below.trod laidOut (by kernel_rfl) (of_decide_eq_true (by kernel_rfl)) k2 bel lt2) trodAll_mk0))), rfl, bel.frame _, fun h => by cases h⟩

theorem over : Rows.crcEvenRow.holds Try.pinned (OpenSpec.ofChange Rows.crcEvenSpec) :=
  OpenClaim.holds_of_wide 7 Try.f7 rfl rfl rfl rfl rfl rfl rfl ⟨rfl, rfl, rfl, rfl, rfl⟩ rfl rfl rfl rfl rfl (by kernel_rfl) Try.func7 (by kernel_rfl)
    (of_decide_eq_true (by kernel_rfl)) (by unfold Func.isWrapper; first | (rw [if_pos (by decide +kernel)]; kernel_rfl) | (rw [if_neg (by decide +kernel)]; exact ⟨rfl, rfl⟩))
    (fun os started H enc _ => lifted os started H enc)

theorem proved : Rows.CrcEvenSaid := over
#print axioms proved
end Go.Proofs.Ytjhgegoipnjgmaa.crcEven
