
/-
  RdErr, RdSigned, RdText, RdFixed, RdNo in one text.
-/
import Derived.Test.YtmjbfobjndiecaaRdRaw
import Derived.Laws.IdiomStrings
import Derived.Laws.BytesArg
import Derived.RegionTactic
import Derived.ChangeAlike
set_option linter.unusedVariables false
set_option linter.unusedSimpArgs false
namespace Go.Proofs.Ytmjbfobjndiecaa
section
open Go.RowKit Plain

theorem rd_short_stop (base g : Nat) (v : Value) (bs : List Nat) (at_ : Nat) (e : Int) (w : World) (hR : Rd w base g v bs at_ e) (he : e ≠ 0) :
    Calls Try.prog 46 #[.pointer (some ⟨g, 0, none⟩)] w fun en w' => en = .returned (.int .i64 0) ∧ RdStep base g v bs (at_, e) w w' := by
  have HR := Lib.hid hR
  have HE := Lib.hid he
  clear hR he
  go_enter Try.func46, Try.ntmps46
  go_wp2_with fail
  refine (read_err g e _ _ (cell_at (HR.out.alloc _)).2.2.1 HE.out).mono ?_
  rintro en w' ⟨rfl, rfl⟩
  go_wp2_with fail
  go_ret
  exact ⟨rfl, HR.out.alloc _, (Fr.refl _ w).alloc _⟩

theorem rd_signed_stop (base g : Nat) (v : Value) (bs : List Nat) (at_ : Nat) (e : Int) (w : World) (hR : Rd w base g v bs at_ e) (he : e ≠ 0) :
    Calls Try.prog 79 #[.pointer (some ⟨g, 0, none⟩)] w fun en w' => en = .returned (.int .i64 0) ∧ RdStep base g v bs (at_, e) w w' := by
  have HR := Lib.hid hR
  have HE := Lib.hid he
  clear hR he
  go_enter Try.func79, Try.ntmps79
  go_wp2_with fail
  refine (read_err g e _ _ (cell_at (HR.out.alloc _)).2.2.1 HE.out).mono ?_
  rintro en w' ⟨rfl, rfl⟩
  go_wp2_with fail
  go_ret
  exact ⟨rfl, HR.out.alloc _, (Fr.refl _ w).alloc _⟩

theorem rd_list_stop (base g : Nat) (v : Value) (bs : List Nat) (at_ : Nat) (e x : Int) (w : World) (hR : Rd w base g v bs at_ e) (he : e ≠ 0) :
    Calls Try.prog 75 #[.pointer (some ⟨g, 0, none⟩), .int .i64 x] w fun en w' => en = .returned (.int .i64 0) ∧ RdStep base g v bs (at_, e) w w' := by
  have HR := Lib.hid hR
  have HE := Lib.hid he
  clear hR he
  go_enter Try.func75, Try.ntmps75
  go_wp2_with fail
  refine (read_err g e _ _ (cell_at ((HR.out.alloc _).alloc _)).2.2.1 HE.out).mono ?_
  rintro en w' ⟨rfl, rfl⟩
  go_wp2_with fail
  go_ret
  exact ⟨rfl, (HR.out.alloc _).alloc _, ((Fr.refl _ w).alloc _).alloc _⟩

theorem rd_fixed_stop (base g : Nat) (v : Value) (bs : List Nat) (at_ n : Nat) (e : Int) (w : World) (hR : Rd w base g v bs at_ e) (he : e ≠ 0) (hn : Wide n) :
    Calls Try.prog 78 #[.pointer (some ⟨g, 0, none⟩), .int .i64 (n : Int)] w fun en w' => en = .returned (.int .u64 0) ∧ RdStep base g v bs (at_, e) w w' := by
  have HR := Lib.hid hR
  have HE := Lib.hid he
  have HN := Lib.hid hn
  clear hR he hn
  go_enter Try.func78, Try.ntmps78
  go_wp2_with fail
  refine (isWidth_yes n _ HN.out).mono ?_
  rintro en w1 ⟨rfl, rfl⟩
  go_wp2_with fail
  refine (read_err g e _ _ (cell_at ((HR.out.alloc _).alloc _)).2.2.1 HE.out).mono ?_
  rintro en w' ⟨rfl, rfl⟩
  go_wp2_with fail
  go_ret
  exact ⟨rfl, (HR.out.alloc _).alloc _, ((Fr.refl _ w).alloc _).alloc _⟩

theorem rd_end_stop (base g : Nat) (v : Value) (bs : List Nat) (at_ : Nat) (e : Int) (w : World) (hR : Rd w base g v bs at_ e) (he : e ≠ 0) (hlen : bs.length ≤ 140737488355328) :
    Calls Try.prog 50 #[.pointer (some ⟨g, 0, none⟩)] w fun en w' => en = .returned (.int .i64 e) ∧ RdStep base g v bs (at_, e) w w' := by
  have HR := Lib.hid hR
  have HE := Lib.hid he
  have hle := hR.2.2
  clear hR he
  by_cases h : at_ < bs.length
  · go_enter Try.func50, Try.ntmps50
    go_wp2_with fail
    refine (rd_left base g v bs at_ e w HR.out hlen).mono ?_
    rintro en w1 ⟨rfl, k, rfl⟩
    go_wp2_with fail
    refine (rd_fail base g v bs at_ e 3 _ (HR.out.drewN k)).mono ?_
    rintro en w2 ⟨rfl, h2, f2⟩
    simp only at h2
    rw [if_neg HE.out] at h2
    have hc := (cell_at h2).2.2.1
    have H2 := Lib.hid h2
    have F2 := Lib.hid f2
    clear h2 f2
    go_wp2_with fail
    go_ret
    exact ⟨rfl, H2.out, ((Fr.refl _ w).drewN k).trans F2.out (fun _ _ h => h)⟩
  · go_enter Try.func50, Try.ntmps50
    go_wp2_with fail
    refine (rd_left base g v bs at_ e w HR.out hlen).mono ?_
    rintro en w1 ⟨rfl, k, rfl⟩
    have hc := (cell_at (HR.out.drewN k)).2.2.1
    go_wp2_with fail
    go_ret
    exact ⟨rfl, HR.out.drewN k, (Fr.refl _ w).drewN k⟩
end

section
open Go.RowKit Plain

/-- The signed number that a short number means. -/
def unzig (V : Nat) : Int := if V % 2 = 1 then -1 - (V / 2 : Nat) else (V / 2 : Nat)

set_option maxHeartbeats 400000 in
theorem cl_signed_yes (xs : List Nat) (n V K : Nat) (hl : xs.length = n) (hx : ∀ x ∈ xs, x < 256) (w : World) (BB : Nat) (A : Option Addr) (c cv : Nat) (v0 : Value) (ha : Reads w BB 1 A n (BS xs)) (hn : n ≤ 140737488355328)
    (hcv : Blk w cv 3 #[v0]) (hrs : rs xs = (V, K, 0)) (hV : V ≤ 4611686018427387903) :
    Calls Try.prog 96 #[.slice A n c, .pointer (some ⟨cv, 0, none⟩)] w fun en w1 =>
      en = .returned (.tuple #[.int .i64 (K : Int), .int .i64 ((0 : Nat) : Int)]) ∧ Blk w1 cv 3 #[.int .i64 (unzig V)] ∧ Fr (fun i => i = cv) w w1 := by
  have hc : w.cell? ⟨cv, 0, none⟩ = some v0 := by rw [hcv.cell]; rfl
  have hf := hcv.frozen 0
  have HB := Lib.hid hcv
  have HRS := Lib.hid hrs
  clear hcv hrs
  by_cases hp : V % 2 = 1
  · have hu : unzig V = -1 - (V : Int) / 2 := by unfold unzig; rw [if_pos hp]; omega
    have HU := Lib.hid hu
    have hb : ((V : Int) % 2 == 1) = true := by rw [beq_iff_eq]; omega
    clear hu hp
    go_enter Try.func96, Try.ntmps96
    go_wp2_with fail
    refine (rshort_any xs n hl hx w BB A c ha hn).mono ?_
    rintro e w' ⟨he, rfl⟩
    unfold Told at he
    rw [HRS.out] at he
    subst he
    go_wp2_with fail
    go_ret2
    refine ⟨rfl, ?_, ?_⟩
    · rw [HU.out]
      simpa using (HB.out.set_ 0 (.int .i64 ((V : Int) / 2))).set_ 0 (.int .i64 (-1 - (V : Int) / 2))
    · exact (fr_one _).trans (fr_one _) (fun _ _ h => h)
  · have hu : unzig V = (V : Int) / 2 := by unfold unzig; rw [if_neg hp]; omega
    have HU := Lib.hid hu
    have hb : ((V : Int) % 2 == 1) = false := by rw [beq_eq_false_iff_ne]; omega
    clear hu hp
    go_enter Try.func96, Try.ntmps96
    go_wp2_with fail
    refine (rshort_any xs n hl hx w BB A c ha hn).mono ?_
    rintro e w' ⟨he, rfl⟩
    unfold Told at he
    rw [HRS.out] at he
    subst he
    go_wp2_with fail
    go_ret2
    refine ⟨rfl, ?_, fr_one _⟩
    rw [HU.out]
    simpa using HB.out.set_ 0 (.int .i64 ((V : Int) / 2))

set_option maxHeartbeats 400000 in
theorem rd_signed_yes (base g : Nat) (v : Value) (bs : List Nat) (at_ V K : Nat) (w : World) (hR : Rd w base g v bs at_ 0) (hx : ∀ x ∈ bs, x < 256) (hlen : bs.length ≤ 140737488355328) (hrs : rs (bs.drop at_) = (V, K, 0)) (hK : at_ + K ≤ bs.length) (hV : V ≤ 4611686018427387903) :
    Calls Try.prog 79 #[.pointer (some ⟨g, 0, none⟩)] w fun en w' => en = .returned (.int .i64 (unzig V)) ∧ RdStep base g v bs (at_ + K, 0) w w' := by
  have HR := Lib.hid hR
  have HX := Lib.hid hx
  have HRS := Lib.hid hrs
  clear hR hx hrs
  go_enter Try.func79, Try.ntmps79
  go_wp2_with fail
  refine (read_with base g w.heap.size v (.int .i64 0) (.int .i64 (unzig V)) 3 bs at_ 0 _ (HR.out.alloc _) (Blk.new w _ _) (by decide) (by decide) 96 #[.pointer (some ⟨w.heap.size, 0, none⟩)]
    (fun args W => by go_simp) hlen K 0 (fun _ A n c h1 h2 h3 => (cl_signed_yes (bs.drop at_) n V K (by rw [List.length_drop]; omega) (fun x hx => HX.out x (List.mem_of_mem_drop hx)) _ _ A c w.heap.size _ h2 (by omega) (Blk.new w _ _).drew HRS.out hV).mono ?_) hK).mono ?_
  · rintro en w1 ⟨rfl, h4, h5⟩
    exact ⟨rfl, h4, ((Fr.refl _ _).drew).trans h5 (fun _ _ h => h)⟩
  rintro en w' ⟨rfl, h4, h5, h6⟩
  have hc5 : w'.cell? ⟨w.heap.size, 0, none⟩ = some (.int .i64 (unzig V)) := by rw [h5.cell]; rfl
  have H4 := Lib.hid h4
  have H6 := Lib.hid h6
  clear h4 h5 h6
  go_wp2_with fail
  go_ret
  exact ⟨rfl, RdStep.of_new H4.out H6.out⟩
end

section
open Go.RowKit Plain

/-- The text of bytes. -/
def TX (l : List Nat) : ByteArray := ⟨(l.map UInt8.ofNat).toArray⟩

theorem run_text_of {P : Program} (w : World) (src dst e : TypeId) (BB : Nat) (A : Option Addr) (m cap : Nat) (l : List Nat) (hr : Reads w BB 1 A m (BS l)) (hl : ∀ x ∈ l, x < 256) (hs : P.underlying src = some (.slice e)) (he : P.underlying e = some (.int .u8)) (hd : P.underlying dst = some .string) :
    (convert src dst (.slice A m cap)).run P w = .ok (.string (TX l)) w := by
  have hlm : l.length = m := by have := hr.1; simpa [BS] using this
  rcases A with _ | a
  · have hm : m = 0 := by
      rcases Nat.eq_zero_or_pos m with h0 | h0
      · exact h0
      · obtain ⟨ad, h, _⟩ := hr.2 h0
        cases h
    subst hm
    have : l = [] := List.eq_nil_of_length_eq_zero hlm
    subst this
    exact run_convert_bytes_nil w src e hs he 0 cap dst hd
  · have h := run_convert_bytes_back (P := P) w src dst e a cap (l.map UInt8.ofNat) hs he hd (fun j hj => by
      simp at hj
      obtain ⟨ad, h, _, hc⟩ := hr.2 (by omega)
      injection h with h
      subst h
      have hx := hl _ (List.getElem_mem hj)
      rw [hc j (B l[j]) (by simp [BS, hj])]
      simp [B]
      omega)
    rw [List.length_map, hlm] at h
    exact h

end

section
open Go.RowKit Plain

theorem apart_u64 {w : World} {BB n cv : Nat} {A : Option Addr} {xs : List Nat} {x : Int} {t : TypeId} (hr : Reads w BB 1 A n (BS xs)) (hb : Blk w cv t #[.int .u64 x]) {k : Nat} (hk : k < n) {ad : Addr} (ha : A = some ad) : (ad.add k).block ≠ cv := by
  intro he
  obtain ⟨ad', u, h, _, hu, hc⟩ := hr.at_ hk
  rw [ha] at h
  injection h with h
  subst h
  simp [BS, B] at hu
  obtain ⟨y, _, rfl⟩ := hu
  have hs := World.cell?_spot hc
  rw [show ad.add k = ⟨cv, (ad.add k).off, none⟩ by rw [← he, ← hs], hb.cell] at hc
  rcases Nat.eq_zero_or_pos (ad.add k).off with h0 | h0
  · rw [h0] at hc; simp at hc
  · rw [Array.getElem?_eq_none (by simp; omega)] at hc; cases hc

def FxRel (w : World) (cv : Nat) (xs : List Nat) (m : Nat) (s : Value) (wr : World) : Prop :=
  ∃ k V : Nat, s = .int .i64 (k : Int) ∧ k ≤ m ∧ Hid (V = leV (xs.take k)) ∧ Blk wr cv 101 #[.int .u64 (V : Int)] ∧ Fr (fun i => i = cv) w wr

set_option maxRecDepth 100000 in
set_option maxHeartbeats 1000000 in
theorem cl_fixed_yes (xs : List Nat) (n : Nat) (hl : xs.length = n) (hx : ∀ x ∈ xs, x < 256) (A : Option Addr) (c : Nat) (cn cv m : Nat) (w : World) (BB : Nat) (hr : Reads w BB 1 A n (BS xs)) (hB : BB ≤ w.heap.size) (_hn : n ≤ 140737488355328) (hnc : n ≤ c) (hmn : m ≤ n) (hm8 : m ≤ 8)
    (hcn : Blk w cn 3 #[.int .i64 (m : Int)]) (hcb : Blk w cv 101 #[.int .u64 0]) :
    Calls Try.prog 95 #[.slice A n c, .pointer (some ⟨cn, 0, none⟩), .pointer (some ⟨cv, 0, none⟩)] w fun en w1 =>
      en = .returned (.tuple #[.int .i64 (m : Int), .int .i64 ((0 : Nat) : Int)]) ∧ Blk w1 cv 101 #[.int .u64 (leV (xs.take m) : Int)] ∧ Fr (fun i => i = cv) w w1 := by
  have hc : w.cell? ⟨cn, 0, none⟩ = some (.int .i64 (m : Int)) := by rw [hcn.cell]; rfl
  have hne : cn ≠ cv := Blk.ne_ hcn hcb (by decide)
  have HR := Lib.hid hr
  have HX := Lib.hid hx
  have HL := Lib.hid hl
  have HB := Lib.hid hcb
  have HN := Lib.hid hcn
  clear hr hx hl hcb hcn
  go_enter Try.func95, Try.ntmps95
  go_wp2_with fail
  go_loopw [16] (fun s wr => FxRel w cv xs m s wr) (fun s _ => m - (intOf s).toNat)
  case atStart => exact ⟨0, 0, rfl, by omega, rfl, HB.out, Fr.refl _ _⟩
  case round =>
    obtain ⟨k, V, rfl, hk, hV, hblk, hfr⟩ := hrel
    have hcV : wr.cell? ⟨cv, 0, none⟩ = some (.int .u64 (V : Int)) := by rw [hblk.cell]; rfl
    have hfV := hblk.frozen 0
    have hcn1 : wr.cell? ⟨cn, 0, none⟩ = some (.int .i64 (m : Int)) := by rw [(hfr.blk HN.out hne).cell]; rfl
    have HBK := Lib.hid hblk
    have HFR := Lib.hid hfr
    clear hblk hfr hc
    by_cases hlt : k < m
    · obtain ⟨ad, u, rfl, hbl, hu, hcell⟩ := HR.out.at_ (show k < n by omega)
      have hap := apart_u64 HR.out HB.out (show k < n by omega) rfl
      have hcell' : wr.cell? (ad.add k) = some u := (HFR.out.cell (by rw [block_of_add]; omega) hap).trans hcell
      obtain ⟨x, hx, rfl⟩ : ∃ x : Nat, xs[k]? = some x ∧ .int .u8 (x : Int) = u := by
        simp [BS, B] at hu
        exact hu
      have hx256 : x < 256 := HX.out x (List.mem_of_getElem? hx)
      have hxlt : k < xs.length := (List.getElem?_eq_some_iff.1 hx).1
      have hts : leV (xs.take (k + 1)) = V + x * 256 ^ k := by
        rw [List.take_succ_eq_append_getElem hxlt, leV_snoc, ← hV.out, List.length_take, Nat.min_eq_left (by omega)]
        rw [List.getElem?_eq_getElem hxlt] at hx
        injection hx with hx
        rw [hx]
      have hVl : V < 256 ^ k := by
        have := leV_lt (xs.take k) (fun y hy => HX.out y (List.mem_of_mem_take hy))
        rw [List.length_take, Nat.min_eq_left (by omega)] at this
        rw [hV.out]; exact this
      have hor := u64_or_shl V x k hVl hx256 (by omega)
      obtain ⟨V2, hV2⟩ : ∃ V2, V2 = V + x * 256 ^ k := ⟨_, rfl⟩
      rw [← hV2] at hor hts
      have HTS := Lib.hid hts
      clear hu hcell hx hts hVl hV2 hap hxlt
      go_wp2_with fail
      go_region
      all_goals go_wp2_with fail
      exact ⟨⟨k + 1, V2, by go_num, by omega, HTS.out.symm, by simpa using (HBK.out.set_ 0 (.int .u64 (V2 : Int))).drew, (HFR.out.setCell (p := ⟨cv, 0, none⟩) (.inl rfl) _).drew⟩, by simp [intOf]; omega⟩
    · obtain rfl : k = m := by omega
      go_wp2_with fail
      go_ret2
      exact ⟨rfl, by rw [← hV.out]; exact HBK.out, HFR.out⟩

set_option maxHeartbeats 400000 in
theorem rd_fixed_yes (base g : Nat) (v : Value) (bs : List Nat) (at_ m : Nat) (w : World) (hR : Rd w base g v bs at_ 0) (hx : ∀ x ∈ bs, x < 256) (hlen : bs.length ≤ 140737488355328) (hm : Wide m) (hN : at_ + m ≤ bs.length) :
    Calls Try.prog 78 #[.pointer (some ⟨g, 0, none⟩), .int .i64 (m : Int)] w fun en w' =>
      en = .returned (.int .u64 (leV ((bs.drop at_).take m) : Int)) ∧ RdStep base g v bs (at_ + m, 0) w w' := by
  have HR := Lib.hid hR
  have HM := Lib.hid hm
  have HX := Lib.hid hx
  have hm8 : m ≤ 8 := by rcases hm with h | h | h | h <;> omega
  clear hR hm hx
  go_enter Try.func78, Try.ntmps78
  go_wp2_with fail
  refine (isWidth_yes m _ HM.out).mono ?_
  rintro en w1 ⟨rfl, rfl⟩
  go_wp2_with fail
  refine (read_with base g (w.heap.size + 1) v (.int .u64 0) (.int .u64 (leV ((bs.drop at_).take m) : Int)) 101 bs at_ 0 _ ((HR.out.alloc _).alloc _) (by simpa using Blk.new (w.alloc (.cells #[.int .i64 (m : Int)] 3)) _ _) (by decide) (by decide)
    95 #[.pointer (some ⟨w.heap.size, 0, none⟩), .pointer (some ⟨w.heap.size + 1, 0, none⟩)]
    (fun args W => by go_simp) hlen m 0 (fun _ A n c h1 h2 h3 => 
      (cl_fixed_yes (bs.drop at_) n (by rw [List.length_drop]; omega) (fun x hx => HX.out x (List.mem_of_mem_drop hx)) A c w.heap.size (w.heap.size + 1) m _ _ h2 (by simp) (by omega) h3 (by omega) hm8 (((Blk.new w _ _).alloc _).drew) (by simpa using Blk.drew (Blk.new (w.alloc (.cells #[.int .i64 (m : Int)] 3)) _ _))).mono ?_) hN).mono ?_
  · rintro en w1 ⟨rfl, h4, h5⟩
    exact ⟨rfl, h4, ((Fr.refl _ _).drew).trans h5 (fun _ _ h => h)⟩
  rintro en w' ⟨rfl, h4, h6, h5⟩
  generalize hV : (leV ((bs.drop at_).take m)) = V at h6
  have hc5 : w'.cell? ⟨w.heap.size + 1, 0, none⟩ = some (.int .u64 (V : Int)) := by rw [h6.cell]; rfl
  have H4 := Lib.hid h4
  have H5 := Lib.hid h5
  have HV := Lib.hid hV
  clear h4 h5 h6 hV
  go_wp2_with fail
  go_ret
  exact ⟨by rw [HV.out]; rfl, RdStep.of_new2 H4.out H5.out⟩
end

section
open Go.RowKit Plain

set_option maxHeartbeats 400000 in
theorem cl_signed_err (xs : List Nat) (n : Nat) (hl : xs.length = n) (hx : ∀ x ∈ xs, x < 256) (w : World) (BB : Nat) (A : Option Addr) (c cv : Nat)  (v0 : Value) (ha : Reads w BB 1 A n (BS xs)) (hn : n ≤ 140737488355328)
    (hcv : Blk w cv 3 #[v0]) (E : Nat) (hE : E ≠ 0) (hrs : rs xs = (0, 0, E))  :
    Calls Try.prog 96 #[.slice A n c, .pointer (some ⟨cv, 0, none⟩)] w fun en w1 =>
      en = .returned (.tuple #[.int .i64 ((0 : Nat) : Int), .int .i64 ((E : Nat) : Int)]) ∧ Blk w1 cv 3 #[v0] ∧ Fr (fun i => i = cv) w w1 := by
  have HB := Lib.hid hcv
  have HRS := Lib.hid hrs
  clear hcv hrs
  have hEb : ((E : Int) != 0) = true := by simp; omega
  go_enter Try.func96, Try.ntmps96
  go_wp2_with fail
  refine (rshort_any xs n hl hx w BB A c ha hn).mono ?_
  rintro e w' ⟨he, rfl⟩
  unfold Told at he
  rw [HRS.out] at he
  subst he
  go_wp2_with fail
  go_ret2
  exact ⟨rfl, HB.out, Fr.refl _ _⟩

set_option maxHeartbeats 400000 in
theorem cl_signed_big (xs : List Nat) (n : Nat) (hl : xs.length = n) (hx : ∀ x ∈ xs, x < 256) (w : World) (BB : Nat) (A : Option Addr) (c cv : Nat)  (v0 : Value) (ha : Reads w BB 1 A n (BS xs)) (hn : n ≤ 140737488355328)
    (hcv : Blk w cv 3 #[v0]) (V K : Nat) (hV : 4611686018427387903 < V) (hV9 : V ≤ 9223372036854775807) (hrs : rs xs = (V, K, 0))  :
    Calls Try.prog 96 #[.slice A n c, .pointer (some ⟨cv, 0, none⟩)] w fun en w1 =>
      en = .returned (.tuple #[.int .i64 ((0 : Nat) : Int), .int .i64 ((3 : Nat) : Int)]) ∧ Blk w1 cv 3 #[v0] ∧ Fr (fun i => i = cv) w w1 := by
  have HB := Lib.hid hcv
  have HRS := Lib.hid hrs
  clear hcv hrs
  go_enter Try.func96, Try.ntmps96
  go_wp2_with fail
  refine (rshort_any xs n hl hx w BB A c ha hn).mono ?_
  rintro e w' ⟨he, rfl⟩
  unfold Told at he
  rw [HRS.out] at he
  subst he
  go_wp2_with fail
  go_ret2
  exact ⟨rfl, HB.out, Fr.refl _ _⟩

set_option maxHeartbeats 400000 in
theorem cl_list_err (xs : List Nat) (n : Nat) (hl : xs.length = n) (hx : ∀ x ∈ xs, x < 256) (w : World) (BB : Nat) (A : Option Addr) (c cv : Nat) (cn : Nat) (most : Int) (v0 : Value) (ha : Reads w BB 1 A n (BS xs)) (hn : n ≤ 140737488355328)
    (hcv : Blk w cv 3 #[v0]) (E : Nat) (hE : E ≠ 0) (hrs : rs xs = (0, 0, E)) (hcn : Blk w cn 3 #[.int .i64 most]) :
    Calls Try.prog 94 #[.slice A n c, .pointer (some ⟨cn, 0, none⟩), .pointer (some ⟨cv, 0, none⟩)] w fun en w1 =>
      en = .returned (.tuple #[.int .i64 ((0 : Nat) : Int), .int .i64 ((E : Nat) : Int)]) ∧ Blk w1 cv 3 #[v0] ∧ Fr (fun i => i = cv) w w1 := by
  have HB := Lib.hid hcv
  have HRS := Lib.hid hrs
  have hcm : w.cell? ⟨cn, 0, none⟩ = some (.int .i64 most) := by rw [hcn.cell]; rfl
  clear hcv hrs
  have hEb : ((E : Int) != 0) = true := by simp; omega
  go_enter Try.func94, Try.ntmps94
  go_wp2_with fail
  refine (rshort_any xs n hl hx w BB A c ha hn).mono ?_
  rintro e w' ⟨he, rfl⟩
  unfold Told at he
  rw [HRS.out] at he
  subst he
  go_wp2_with fail
  go_ret2
  exact ⟨rfl, HB.out, Fr.refl _ _⟩

set_option maxHeartbeats 400000 in
theorem cl_list_most (xs : List Nat) (n : Nat) (hl : xs.length = n) (hx : ∀ x ∈ xs, x < 256) (w : World) (BB : Nat) (A : Option Addr) (c cv : Nat) (cn : Nat) (most : Int) (v0 : Value) (ha : Reads w BB 1 A n (BS xs)) (hn : n ≤ 140737488355328)
    (hcv : Blk w cv 3 #[v0]) (V K : Nat) (hV : most < (V : Int)) (_hV9 : V ≤ 9223372036854775807) (hrs : rs xs = (V, K, 0)) (hcn : Blk w cn 3 #[.int .i64 most]) :
    Calls Try.prog 94 #[.slice A n c, .pointer (some ⟨cn, 0, none⟩), .pointer (some ⟨cv, 0, none⟩)] w fun en w1 =>
      en = .returned (.tuple #[.int .i64 ((0 : Nat) : Int), .int .i64 ((3 : Nat) : Int)]) ∧ Blk w1 cv 3 #[v0] ∧ Fr (fun i => i = cv) w w1 := by
  have HB := Lib.hid hcv
  have HRS := Lib.hid hrs
  have hcm : w.cell? ⟨cn, 0, none⟩ = some (.int .i64 most) := by rw [hcn.cell]; rfl
  clear hcv hrs
  go_enter Try.func94, Try.ntmps94
  go_wp2_with fail
  refine (rshort_any xs n hl hx w BB A c ha hn).mono ?_
  rintro e w' ⟨he, rfl⟩
  unfold Told at he
  rw [HRS.out] at he
  subst he
  go_wp2_with fail
  go_ret2
  exact ⟨rfl, HB.out, Fr.refl _ _⟩

set_option maxHeartbeats 400000 in
theorem cl_list_big (xs : List Nat) (n : Nat) (hl : xs.length = n) (hx : ∀ x ∈ xs, x < 256) (w : World) (BB : Nat) (A : Option Addr) (c cv : Nat) (cn : Nat) (most : Int) (v0 : Value) (ha : Reads w BB 1 A n (BS xs)) (hn : n ≤ 140737488355328)
    (hcv : Blk w cv 3 #[v0]) (V K : Nat) (hV : ¬ most < (V : Int)) (hK : K ≤ n) (hS : n < K + V) (hV9 : V ≤ 9223372036854775807) (hrs : rs xs = (V, K, 0)) (hcn : Blk w cn 3 #[.int .i64 most]) :
    Calls Try.prog 94 #[.slice A n c, .pointer (some ⟨cn, 0, none⟩), .pointer (some ⟨cv, 0, none⟩)] w fun en w1 =>
      en = .returned (.tuple #[.int .i64 ((0 : Nat) : Int), .int .i64 ((2 : Nat) : Int)]) ∧ Blk w1 cv 3 #[v0] ∧ Fr (fun i => i = cv) w w1 := by
  have HB := Lib.hid hcv
  have HRS := Lib.hid hrs
  have hcm : w.cell? ⟨cn, 0, none⟩ = some (.int .i64 most) := by rw [hcn.cell]; rfl
  clear hcv hrs
  go_enter Try.func94, Try.ntmps94
  go_wp2_with fail
  refine (rshort_any xs n hl hx w BB A c ha hn).mono ?_
  rintro e w' ⟨he, rfl⟩
  unfold Told at he
  rw [HRS.out] at he
  subst he
  go_wp2_with fail
  go_ret2
  exact ⟨rfl, HB.out, Fr.refl _ _⟩

set_option maxHeartbeats 400000 in
theorem cl_list_yes (xs : List Nat) (n : Nat) (hl : xs.length = n) (hx : ∀ x ∈ xs, x < 256) (w : World) (BB : Nat) (A : Option Addr) (c cv cn : Nat) (most : Int) (v0 : Value) (ha : Reads w BB 1 A n (BS xs)) (hn : n ≤ 140737488355328)
    (hcv : Blk w cv 3 #[v0]) (hcn : Blk w cn 3 #[.int .i64 most]) (V K : Nat) (hV : ¬ most < (V : Int)) (hS : K + V ≤ n) (hrs : rs xs = (V, K, 0)) :
    Calls Try.prog 94 #[.slice A n c, .pointer (some ⟨cn, 0, none⟩), .pointer (some ⟨cv, 0, none⟩)] w fun en w1 =>
      en = .returned (.tuple #[.int .i64 (K : Int), .int .i64 ((0 : Nat) : Int)]) ∧ Blk w1 cv 3 #[.int .i64 (V : Int)] ∧ Fr (fun i => i = cv) w w1 := by
  have hc : w.cell? ⟨cv, 0, none⟩ = some v0 := by rw [hcv.cell]; rfl
  have hf := hcv.frozen 0
  have hcm : w.cell? ⟨cn, 0, none⟩ = some (.int .i64 most) := by rw [hcn.cell]; rfl
  have HB := Lib.hid hcv
  have HRS := Lib.hid hrs
  clear hcv hrs hcn
  go_enter Try.func94, Try.ntmps94
  go_wp2_with fail
  refine (rshort_any xs n hl hx w BB A c ha hn).mono ?_
  rintro e w' ⟨he, rfl⟩
  unfold Told at he
  rw [HRS.out] at he
  subst he
  go_wp2_with fail
  go_ret2
  exact ⟨rfl, by simpa using HB.out.set_ 0 _, fr_one _⟩

set_option maxHeartbeats 400000 in
theorem cl_fixed_no (A : Option Addr) (n c : Nat) (cn cv m : Nat) (v0 : Value) (w : World) (hm : n < m) (hcn : Blk w cn 3 #[.int .i64 (m : Int)]) (hcv : Blk w cv 101 #[v0]) :
    Calls Try.prog 95 #[.slice A n c, .pointer (some ⟨cn, 0, none⟩), .pointer (some ⟨cv, 0, none⟩)] w fun en w1 =>
      en = .returned (.tuple #[.int .i64 ((0 : Nat) : Int), .int .i64 ((2 : Nat) : Int)]) ∧ Blk w1 cv 101 #[v0] ∧ Fr (fun i => i = cv) w w1 := by
  have hc : w.cell? ⟨cn, 0, none⟩ = some (.int .i64 (m : Int)) := by rw [hcn.cell]; rfl
  have HB := Lib.hid hcv
  clear hcn hcv
  go_enter Try.func95, Try.ntmps95
  go_wp2_with fail
  go_ret2
  exact ⟨rfl, HB.out, Fr.refl _ _⟩

set_option maxHeartbeats 400000 in
theorem rd_signed_err (base g : Nat) (v : Value) (bs : List Nat) (at_ : Nat) (w : World) (hR : Rd w base g v bs at_ 0) (hx : ∀ x ∈ bs, x < 256) (hlen : bs.length ≤ 140737488355328) (E : Nat) (hE : E ≠ 0) (hrs : rs (bs.drop at_) = (0, 0, E)) :
    Calls Try.prog 79 #[.pointer (some ⟨g, 0, none⟩)] w fun en w' => en = .returned (.int .i64 0) ∧ RdStep base g v bs (at_, ((E : Nat) : Int)) w w' := by
  have HR := Lib.hid hR
  have HX := Lib.hid hx
  have HRS := Lib.hid hrs
  have hat := hR.2.2
  clear hR hx hrs
  go_enter Try.func79, Try.ntmps79
  go_wp2_with fail
  refine (read_with base g w.heap.size v (.int .i64 0) (.int .i64 0) 3 bs at_ 0 _ (HR.out.alloc _) (Blk.new w _ _) (by decide) (by decide) 96 #[.pointer (some ⟨w.heap.size, 0, none⟩)]
    (fun args W => by go_simp) hlen 0 (E) (fun _ A n c h1 h2 h3 => (cl_signed_err (bs.drop at_) n (by rw [List.length_drop]; omega) (fun x hx => HX.out x (List.mem_of_mem_drop hx)) _ _ A c w.heap.size _ h2 (by omega) (Blk.new w _ _).drew E hE HRS.out).mono ?_) hat).mono ?_
  · rintro en w1 ⟨rfl, h4, h5⟩
    exact ⟨rfl, h4, ((Fr.refl _ _).drew).trans h5 (fun _ _ h => h)⟩
  rintro en w' ⟨rfl, h4, h5, h6⟩
  have hc5 : w'.cell? ⟨w.heap.size, 0, none⟩ = some (.int .i64 0) := by rw [h5.cell]; rfl
  have hs : stepR at_ 0 0 (E) = (at_, ((E : Nat) : Int)) := by unfold stepR; rw [if_pos rfl, if_neg (by omega)]
  rw [hs] at h4
  have H4 := Lib.hid h4
  have H6 := Lib.hid h6
  clear h4 h5 h6 hs
  go_wp2_with fail
  go_ret
  exact ⟨rfl, RdStep.of_new H4.out H6.out⟩

set_option maxHeartbeats 400000 in
theorem rd_signed_big (base g : Nat) (v : Value) (bs : List Nat) (at_ : Nat) (w : World) (hR : Rd w base g v bs at_ 0) (hx : ∀ x ∈ bs, x < 256) (hlen : bs.length ≤ 140737488355328) (V K : Nat) (hV : 4611686018427387903 < V) (hV9 : V ≤ 9223372036854775807) (hrs : rs (bs.drop at_) = (V, K, 0)) :
    Calls Try.prog 79 #[.pointer (some ⟨g, 0, none⟩)] w fun en w' => en = .returned (.int .i64 0) ∧ RdStep base g v bs (at_, ((3 : Nat) : Int)) w w' := by
  have HR := Lib.hid hR
  have HX := Lib.hid hx
  have HRS := Lib.hid hrs
  have hat := hR.2.2
  clear hR hx hrs
  go_enter Try.func79, Try.ntmps79
  go_wp2_with fail
  refine (read_with base g w.heap.size v (.int .i64 0) (.int .i64 0) 3 bs at_ 0 _ (HR.out.alloc _) (Blk.new w _ _) (by decide) (by decide) 96 #[.pointer (some ⟨w.heap.size, 0, none⟩)]
    (fun args W => by go_simp) hlen 0 (3) (fun _ A n c h1 h2 h3 => (cl_signed_big (bs.drop at_) n (by rw [List.length_drop]; omega) (fun x hx => HX.out x (List.mem_of_mem_drop hx)) _ _ A c w.heap.size _ h2 (by omega) (Blk.new w _ _).drew V K hV hV9 HRS.out).mono ?_) hat).mono ?_
  · rintro en w1 ⟨rfl, h4, h5⟩
    exact ⟨rfl, h4, ((Fr.refl _ _).drew).trans h5 (fun _ _ h => h)⟩
  rintro en w' ⟨rfl, h4, h5, h6⟩
  have hc5 : w'.cell? ⟨w.heap.size, 0, none⟩ = some (.int .i64 0) := by rw [h5.cell]; rfl
  have hs : stepR at_ 0 0 (3) = (at_, ((3 : Nat) : Int)) := by unfold stepR; rw [if_pos rfl, if_neg (by omega)]
  rw [hs] at h4
  have H4 := Lib.hid h4
  have H6 := Lib.hid h6
  clear h4 h5 h6 hs
  go_wp2_with fail
  go_ret
  exact ⟨rfl, RdStep.of_new H4.out H6.out⟩

set_option maxHeartbeats 400000 in
theorem rd_list_err (base g : Nat) (v : Value) (bs : List Nat) (at_ : Nat) (most : Int) (w : World) (hR : Rd w base g v bs at_ 0) (hx : ∀ x ∈ bs, x < 256) (hlen : bs.length ≤ 140737488355328) (E : Nat) (hE : E ≠ 0) (hrs : rs (bs.drop at_) = (0, 0, E)) :
    Calls Try.prog 75 #[.pointer (some ⟨g, 0, none⟩), .int .i64 most] w fun en w' => en = .returned (.int .i64 0) ∧ RdStep base g v bs (at_, ((E : Nat) : Int)) w w' := by
  have HR := Lib.hid hR
  have HX := Lib.hid hx
  have HRS := Lib.hid hrs
  have hat := hR.2.2
  clear hR hx hrs
  go_enter Try.func75, Try.ntmps75
  go_wp2_with fail
  refine (read_with base g (w.heap.size + 1) v (.int .i64 0) (.int .i64 0) 3 bs at_ 0 _ ((HR.out.alloc _).alloc _) (by simpa using Blk.new (w.alloc (.cells #[.int .i64 most] 3)) _ _) (by decide) (by decide) 94 #[.pointer (some ⟨w.heap.size, 0, none⟩), .pointer (some ⟨w.heap.size + 1, 0, none⟩)]
    (fun args W => by go_simp) hlen 0 (E) (fun _ A n c h1 h2 h3 => (cl_list_err (bs.drop at_) n (by rw [List.length_drop]; omega) (fun x hx => HX.out x (List.mem_of_mem_drop hx)) _ _ A c (w.heap.size + 1) w.heap.size most _ h2 (by omega) (by simpa using Blk.drew (Blk.new (w.alloc (.cells #[.int .i64 most] 3)) _ _)) E hE HRS.out (((Blk.new w _ _).alloc _).drew)).mono ?_) hat).mono ?_
  · rintro en w1 ⟨rfl, h4, h5⟩
    exact ⟨rfl, h4, ((Fr.refl _ _).drew).trans h5 (fun _ _ h => h)⟩
  rintro en w' ⟨rfl, h4, h5, h6⟩
  have hc5 : w'.cell? ⟨w.heap.size + 1, 0, none⟩ = some (.int .i64 0) := by rw [h5.cell]; rfl
  have hs : stepR at_ 0 0 (E) = (at_, ((E : Nat) : Int)) := by unfold stepR; rw [if_pos rfl]; first | rw [if_pos rfl] | rw [if_neg (by omega)]
  rw [hs] at h4
  have H4 := Lib.hid h4
  have H6 := Lib.hid h6
  clear h4 h5 h6 hs
  go_wp2_with fail
  go_ret
  exact ⟨rfl, RdStep.of_new2 H4.out H6.out⟩

set_option maxHeartbeats 400000 in
theorem rd_list_most (base g : Nat) (v : Value) (bs : List Nat) (at_ : Nat) (most : Int) (w : World) (hR : Rd w base g v bs at_ 0) (hx : ∀ x ∈ bs, x < 256) (hlen : bs.length ≤ 140737488355328) (V K : Nat) (hV : most < (V : Int)) (hV9 : V ≤ 9223372036854775807) (hrs : rs (bs.drop at_) = (V, K, 0)) :
    Calls Try.prog 75 #[.pointer (some ⟨g, 0, none⟩), .int .i64 most] w fun en w' => en = .returned (.int .i64 0) ∧ RdStep base g v bs (at_, ((3 : Nat) : Int)) w w' := by
  have HR := Lib.hid hR
  have HX := Lib.hid hx
  have HRS := Lib.hid hrs
  have hat := hR.2.2
  clear hR hx hrs
  go_enter Try.func75, Try.ntmps75
  go_wp2_with fail
  refine (read_with base g (w.heap.size + 1) v (.int .i64 0) (.int .i64 0) 3 bs at_ 0 _ ((HR.out.alloc _).alloc _) (by simpa using Blk.new (w.alloc (.cells #[.int .i64 most] 3)) _ _) (by decide) (by decide) 94 #[.pointer (some ⟨w.heap.size, 0, none⟩), .pointer (some ⟨w.heap.size + 1, 0, none⟩)]
    (fun args W => by go_simp) hlen 0 (3) (fun _ A n c h1 h2 h3 => (cl_list_most (bs.drop at_) n (by rw [List.length_drop]; omega) (fun x hx => HX.out x (List.mem_of_mem_drop hx)) _ _ A c (w.heap.size + 1) w.heap.size most _ h2 (by omega) (by simpa using Blk.drew (Blk.new (w.alloc (.cells #[.int .i64 most] 3)) _ _)) V K hV hV9 HRS.out (((Blk.new w _ _).alloc _).drew)).mono ?_) hat).mono ?_
  · rintro en w1 ⟨rfl, h4, h5⟩
    exact ⟨rfl, h4, ((Fr.refl _ _).drew).trans h5 (fun _ _ h => h)⟩
  rintro en w' ⟨rfl, h4, h5, h6⟩
  have hc5 : w'.cell? ⟨w.heap.size + 1, 0, none⟩ = some (.int .i64 0) := by rw [h5.cell]; rfl
  have hs : stepR at_ 0 0 (3) = (at_, ((3 : Nat) : Int)) := by unfold stepR; rw [if_pos rfl]; first | rw [if_pos rfl] | rw [if_neg (by omega)]
  rw [hs] at h4
  have H4 := Lib.hid h4
  have H6 := Lib.hid h6
  clear h4 h5 h6 hs
  go_wp2_with fail
  go_ret
  exact ⟨rfl, RdStep.of_new2 H4.out H6.out⟩

set_option maxHeartbeats 400000 in
theorem rd_list_big (base g : Nat) (v : Value) (bs : List Nat) (at_ : Nat) (most : Int) (w : World) (hR : Rd w base g v bs at_ 0) (hx : ∀ x ∈ bs, x < 256) (hlen : bs.length ≤ 140737488355328) (V K : Nat) (hV : ¬ most < (V : Int)) (hK : at_ + K ≤ bs.length) (hS : bs.length < at_ + (K + V)) (hV9 : V ≤ 9223372036854775807) (hrs : rs (bs.drop at_) = (V, K, 0)) :
    Calls Try.prog 75 #[.pointer (some ⟨g, 0, none⟩), .int .i64 most] w fun en w' => en = .returned (.int .i64 0) ∧ RdStep base g v bs (at_, ((2 : Nat) : Int)) w w' := by
  have HR := Lib.hid hR
  have HX := Lib.hid hx
  have HRS := Lib.hid hrs
  have hat := hR.2.2
  clear hR hx hrs
  go_enter Try.func75, Try.ntmps75
  go_wp2_with fail
  refine (read_with base g (w.heap.size + 1) v (.int .i64 0) (.int .i64 0) 3 bs at_ 0 _ ((HR.out.alloc _).alloc _) (by simpa using Blk.new (w.alloc (.cells #[.int .i64 most] 3)) _ _) (by decide) (by decide) 94 #[.pointer (some ⟨w.heap.size, 0, none⟩), .pointer (some ⟨w.heap.size + 1, 0, none⟩)]
    (fun args W => by go_simp) hlen 0 (2) (fun _ A n c h1 h2 h3 => (cl_list_big (bs.drop at_) n (by rw [List.length_drop]; omega) (fun x hx => HX.out x (List.mem_of_mem_drop hx)) _ _ A c (w.heap.size + 1) w.heap.size most _ h2 (by omega) (by simpa using Blk.drew (Blk.new (w.alloc (.cells #[.int .i64 most] 3)) _ _)) V K (by omega) (by omega) (by omega) hV9 HRS.out (((Blk.new w _ _).alloc _).drew)).mono ?_) hat).mono ?_
  · rintro en w1 ⟨rfl, h4, h5⟩
    exact ⟨rfl, h4, ((Fr.refl _ _).drew).trans h5 (fun _ _ h => h)⟩
  rintro en w' ⟨rfl, h4, h5, h6⟩
  have hc5 : w'.cell? ⟨w.heap.size + 1, 0, none⟩ = some (.int .i64 0) := by rw [h5.cell]; rfl
  have hs : stepR at_ 0 0 (2) = (at_, ((2 : Nat) : Int)) := by unfold stepR; rw [if_pos rfl]; first | rw [if_pos rfl] | rw [if_neg (by omega)]
  rw [hs] at h4
  have H4 := Lib.hid h4
  have H6 := Lib.hid h6
  clear h4 h5 h6 hs
  go_wp2_with fail
  go_ret
  exact ⟨rfl, RdStep.of_new2 H4.out H6.out⟩

set_option maxHeartbeats 400000 in
theorem rd_list_yes (base g : Nat) (v : Value) (bs : List Nat) (at_ : Nat) (most : Int) (w : World) (hR : Rd w base g v bs at_ 0) (hx : ∀ x ∈ bs, x < 256) (hlen : bs.length ≤ 140737488355328) (V K : Nat) (hV : ¬ most < (V : Int)) (hS : at_ + (K + V) ≤ bs.length) (hrs : rs (bs.drop at_) = (V, K, 0)) :
    Calls Try.prog 75 #[.pointer (some ⟨g, 0, none⟩), .int .i64 most] w fun en w' => en = .returned (.int .i64 (V : Int)) ∧ RdStep base g v bs (at_ + K, 0) w w' := by
  have HR := Lib.hid hR
  have HX := Lib.hid hx
  have HRS := Lib.hid hrs
  have hat := hR.2.2
  clear hR hx hrs
  go_enter Try.func75, Try.ntmps75
  go_wp2_with fail
  refine (read_with base g (w.heap.size + 1) v (.int .i64 0) (.int .i64 (V : Int)) 3 bs at_ 0 _ ((HR.out.alloc _).alloc _) (by simpa using Blk.new (w.alloc (.cells #[.int .i64 most] 3)) _ _) (by decide) (by decide) 94 #[.pointer (some ⟨w.heap.size, 0, none⟩), .pointer (some ⟨w.heap.size + 1, 0, none⟩)]
    (fun args W => by go_simp) hlen K (0) (fun _ A n c h1 h2 h3 => (cl_list_yes (bs.drop at_) n (by rw [List.length_drop]; omega) (fun x hx => HX.out x (List.mem_of_mem_drop hx)) _ _ A c (w.heap.size + 1) w.heap.size most _ h2 (by omega) (by simpa using Blk.drew (Blk.new (w.alloc (.cells #[.int .i64 most] 3)) _ _)) (((Blk.new w _ _).alloc _).drew) V K (by omega) (by omega) HRS.out).mono ?_) (by omega)).mono ?_
  · rintro en w1 ⟨rfl, h4, h5⟩
    exact ⟨rfl, h4, ((Fr.refl _ _).drew).trans h5 (fun _ _ h => h)⟩
  rintro en w' ⟨rfl, h4, h5, h6⟩
  have hc5 : w'.cell? ⟨w.heap.size + 1, 0, none⟩ = some (.int .i64 (V : Int)) := by rw [h5.cell]; rfl
  have hs : stepR at_ 0 K (0) = (at_ + K, 0) := by unfold stepR; rw [if_pos rfl]; first | rw [if_pos rfl] | rw [if_neg (by omega)]
  rw [hs] at h4
  have H4 := Lib.hid h4
  have H6 := Lib.hid h6
  clear h4 h5 h6 hs
  go_wp2_with fail
  go_ret
  exact ⟨rfl, RdStep.of_new2 H4.out H6.out⟩

set_option maxHeartbeats 400000 in
theorem rd_fixed_no (base g : Nat) (v : Value) (bs : List Nat) (at_ m : Nat) (w : World) (hR : Rd w base g v bs at_ 0) (hlen : bs.length ≤ 140737488355328) (hm : Wide m) (hN : bs.length < at_ + m) :
    Calls Try.prog 78 #[.pointer (some ⟨g, 0, none⟩), .int .i64 (m : Int)] w fun en w' =>
      en = .returned (.int .u64 0) ∧ RdStep base g v bs (at_, ((2 : Nat) : Int)) w w' := by
  have HR := Lib.hid hR
  have HM := Lib.hid hm
  have hat := hR.2.2
  clear hR hm
  go_enter Try.func78, Try.ntmps78
  go_wp2_with fail
  refine (isWidth_yes m _ HM.out).mono ?_
  rintro en w1 ⟨rfl, rfl⟩
  go_wp2_with fail
  refine (read_with base g (w.heap.size + 1) v (.int .u64 0) (.int .u64 0) 101 bs at_ 0 _ ((HR.out.alloc _).alloc _) (by simpa using Blk.new (w.alloc (.cells #[.int .i64 (m : Int)] 3)) _ _) (by decide) (by decide)
    95 #[.pointer (some ⟨w.heap.size, 0, none⟩), .pointer (some ⟨w.heap.size + 1, 0, none⟩)]
    (fun args W => by go_simp) hlen 0 2 (fun _ A n c h1 h2 h3 => 
      (cl_fixed_no A n c w.heap.size (w.heap.size + 1) m _ _ (by omega) (((Blk.new w _ _).alloc _).drew) (by simpa using Blk.drew (Blk.new (w.alloc (.cells #[.int .i64 (m : Int)] 3)) _ _))).mono ?_) hat).mono ?_
  · rintro en w1 ⟨rfl, h4, h5⟩
    exact ⟨rfl, h4, ((Fr.refl _ _).drew).trans h5 (fun _ _ h => h)⟩
  rintro en w' ⟨rfl, h4, h6, h5⟩
  have hc5 : w'.cell? ⟨w.heap.size + 1, 0, none⟩ = some (.int .u64 0) := by rw [h6.cell]; rfl
  have hs : stepR at_ 0 0 2 = (at_, ((2 : Nat) : Int)) := by unfold stepR; rw [if_pos rfl, if_neg (by omega)]
  rw [hs] at h4
  have H4 := Lib.hid h4
  have H5 := Lib.hid h5
  clear h4 h5 h6 hs
  go_wp2_with fail
  go_ret
  exact ⟨rfl, RdStep.of_new2 H4.out H5.out⟩
end
end Go.Proofs.Ytmjbfobjndiecaa
