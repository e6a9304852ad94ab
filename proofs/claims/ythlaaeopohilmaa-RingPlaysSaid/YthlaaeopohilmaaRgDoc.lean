/-
  The document's ring: Push, Pop, Cut.
-/
import Derived.Test.YthlaaeopohilmaaRgOwn
import Derived.Deep.AppendLies
import Derived.Deep.RegionLaw
import Derived.WalkLawsBesides
set_option linter.unusedVariables false
set_option linter.unusedSimpArgs false
namespace Go.Proofs.Ythlaaeopohilmaa
open Go.RowKit Plain

/-- A row of numbers that stands in blocks of D. -/
def RX (w : World) (D : Nat → Prop) (A : Option Addr) (c : Nat) (L : List Int) : Prop :=
  L.length ≤ c ∧ (0 < L.length → ∃ ad, A = some ad ∧ D ad.block ∧ ad.block < w.heap.size ∧ ∀ j x, L[j]? = some x → w.cell? (ad.add j) = some (.int .i64 x))
section
variable {w w' : World} {D E S : Nat → Prop} {A : Option Addr} {c : Nat} {L : List Int}
theorem RX.fr (h : RX w D A c L) (hf : Fr S w w') (hS : ∀ i, D i → i < w.heap.size → ¬ S i) : RX w' D A c L :=
  ⟨h.1, fun hn => by
    obtain ⟨ad, e, hd, hb, hc⟩ := h.2 hn
    exact ⟨ad, e, hd, Nat.lt_of_lt_of_le hb hf.size, fun j x hj => (hf.cell (p := ad.add j) (by rw [block_of_add]; exact hb) (by rw [block_of_add]; exact hS _ hd hb)).trans (hc j x hj)⟩⟩
theorem RX.mono (h : RX w D A c L) (hm : ∀ i, D i → i < w.heap.size → E i) : RX w E A c L :=
  ⟨h.1, fun hn => by
    obtain ⟨ad, e, hd, hb, hc⟩ := h.2 hn
    exact ⟨ad, e, hm _ hd hb, hb, hc⟩⟩
theorem RX.below {B : Nat} (h : RX w D A c L) (hb : Below B w w') (hB : w.heap.size ≤ B) : RX w' D A c L := h.fr (Fr.of_below hb) (fun i _ hi h => by omega)
theorem RX.alloc (h : RX w D A c L) (o : Obj) : RX (w.alloc o) D A c L := h.fr ((Fr.refl (fun _ => False) w).alloc o) (fun _ _ _ h => h)
theorem RX.reads (h : RX w D A c L) : Reads w w.heap.size 1 A L.length (L.map EnI) :=
  ⟨by simp, fun hn => by
    obtain ⟨ad, e, hd, hb, hc⟩ := h.2 hn
    refine ⟨ad, e, hb, fun j u hj => ?_⟩
    have hjl : j < L.length := by
      have := (List.getElem?_eq_some_iff.1 hj).1
      simpa using this
    have hx : L[j]? = some L[j] := List.getElem?_eq_getElem hjl
    rw [hc j _ hx]
    simp [hx] at hj
    rw [← hj]⟩
theorem RX.of_own {base : Nat} (h : OwnI w base (.slice A L.length c) L) : RX w (fun i => base ≤ i) A c L := by
  obtain ⟨A', c', e, hc, hr⟩ := h.slice
  injection e with e1 e2 e3
  subst e1 e3
  refine ⟨hc, fun hn => ?_⟩
  obtain ⟨ad, e, hb, hcell⟩ := hr.2 hn
  subst e
  exact ⟨ad, rfl, (h.lt ad.block rfl).1, hb, fun j x hj => hcell j _ (by simp [hj])⟩
theorem RX.of_own_n {base n : Nat} (hn : L.length = n) (h : OwnI w base (.slice A n c) L) : RX w (fun i => base ≤ i) A c L := by
  subst hn
  exact RX.of_own h
theorem RX.tail {y : Int} {r : List Int} (h : RX w D A c (y :: r)) : RX w D (if c = 1 then A else A.map (·.add 1)) (c - 1) r := by
  have h1 := h.1
  simp at h1
  refine ⟨by omega, fun hn => ?_⟩
  obtain ⟨ad, e, hd, hb, hc⟩ := h.2 (by simp)
  subst e
  rw [if_neg (by omega)]
  refine ⟨ad.add 1, rfl, by rw [block_of_add]; exact hd, by rw [block_of_add]; exact hb, fun j x hj => ?_⟩
  rw [add_of_add, Nat.add_comm]
  exact hc (j + 1) x (by simpa using hj)
end

section
variable {P : Program}
/-- Results: a variable that lies in memory, and one in a slot; and two. -/
theorem res_cell_slot {fn : Func} {p q : Tmp} {ty : TypeId} (h : fn.results = #[.cell p ty, .tmp q]) (tmps : Array Value) (w : World) (g : Nat) (t : TypeId) (cs : Array Value) (fr : Nat × Nat) (d : TypeDesc) (u : Value)
    (hp : tmps.getD p undef = .pointer (some ⟨g, 0, none⟩)) (hq : tmps.getD q undef = u) (hg : w.heap[g]? = some (.cells cs t fr))
    (hu : P.underlying ty = some d) (hd : (match d with | .struct _ | .array _ _ => true | _ => false) = true) (hi : (P.info? ty).map (·.size) = some cs.size) :
    (results fn tmps).run P w = .ok (.tuple #[.agg cs, u]) w := by
  have hp' : tmps[p]?.getD undef = .pointer (some ⟨g, 0, none⟩) := by simpa using hp
  have hq' : tmps[q]?.getD undef = u := by simpa using hq
  simp [results, h, hp', hq', asAddr, run_loadVar_row w g t ty cs fr d hg hu hd hi]
theorem res_cell_slots {fn : Func} {p q r : Tmp} {ty : TypeId} (h : fn.results = #[.cell p ty, .tmp q, .tmp r]) (tmps : Array Value) (w : World) (g : Nat) (t : TypeId) (cs : Array Value) (fr : Nat × Nat) (d : TypeDesc) (u v : Value)
    (hp : tmps.getD p undef = .pointer (some ⟨g, 0, none⟩)) (hq : tmps.getD q undef = u) (hr : tmps.getD r undef = v) (hg : w.heap[g]? = some (.cells cs t fr))
    (hu : P.underlying ty = some d) (hd : (match d with | .struct _ | .array _ _ => true | _ => false) = true) (hi : (P.info? ty).map (·.size) = some cs.size) :
    (results fn tmps).run P w = .ok (.tuple #[.agg cs, u, v]) w := by
  have hp' : tmps[p]?.getD undef = .pointer (some ⟨g, 0, none⟩) := by simpa using hp
  have hq' : tmps[q]?.getD undef = u := by simpa using hq
  have hr' : tmps[r]?.getD undef = v := by simpa using hr
  simp [results, h, hp', hq', hr', asAddr, run_loadVar_row w g t ty cs fr d hg hu hd hi]
end
section
variable (room : Nat) (A : Option Addr) (c : Nat) (L : List Int) (w : World)
set_option maxHeartbeats 1000000 in
theorem refPush_no (x : Int) (hl : room ≤ L.length) (h2 : room ≤ 1024) (h3 : L.length ≤ 1024) :
    Calls Try.prog 27 #[.agg #[.int .i64 (room : Int), .slice A L.length c], .int .i64 x] w fun e w' => e = .returned (.tuple #[.agg #[.int .i64 (room : Int), .slice A L.length c], .int .i64 6]) ∧ Below w.heap.size w w' := by
  have h1 : (room : Int) ≤ (L.length : Int) := by omega
  go_enter Try.func27, Try.ntmps27
  go_wp2_with fail
  have hb := Blk.new (w.alloc (.cells #[.int .i64 (room : Int), .slice A L.length c] 27)) 27 #[.int .i64 (room : Int), .slice A L.length c]
  simp only [World.size_alloc] at hb
  refine bodyPost_ret (v := .tuple #[.agg #[.int .i64 (room : Int), .slice A L.length c], .int .i64 6]) (res_cell_slot rfl _ _ (w.heap.size + 1) 27 _ (0, 0) _ _ rfl rfl hb Try.underlying27 rfl (by kernel_rfl)) rfl ?_
  exact ⟨rfl, ((Below.refl _ _).alloc (Nat.le_refl _) _).alloc (by simp) _⟩
set_option maxHeartbeats 4000000 in
theorem refPush_yes (x : Int) (hl : L.length < room) (h2 : room ≤ 1024) (D : Nat → Prop) (hx : RX w D A c L) :
    Calls Try.prog 27 #[.agg #[.int .i64 (room : Int), .slice A L.length c], .int .i64 x] w fun e w' => ∃ A' c', e = .returned (.tuple #[.agg #[.int .i64 (room : Int), .slice A' (L ++ [x]).length c'], .int .i64 0]) ∧ RX w' (fun i => w.heap.size ≤ i) A' c' (L ++ [x]) ∧ Below w.heap.size w w' := by
  obtain ⟨i0, hi0, hz0, hz1, hz2⟩ := info_parts info_int
  have h1 : (L.length : Int) < (room : Int) := by omega
  have hr := hx.reads
  have hrw := (hr.alloc (Nat.le_refl _) (.cells #[.int .i64 (room : Int), .slice A L.length c] 27)).alloc (by simp) (.cells #[.int .i64 0, .slice none 0 0] 27)
  have HR := Lib.hid hrw
  clear hx hr hrw
  have hb0 : Blk ((w.alloc (.cells #[.int .i64 (room : Int), .slice A L.length c] 27)).alloc (.cells #[.int .i64 0, .slice none 0 0] 27)) w.heap.size 27 #[.int .i64 (room : Int), .slice A L.length c] := (Blk.new w _ _).alloc _
  have hb1 : Blk ((w.alloc (.cells #[.int .i64 (room : Int), .slice A L.length c] 27)).alloc (.cells #[.int .i64 0, .slice none 0 0] 27)) (w.heap.size + 1) 27 #[.int .i64 0, .slice none 0 0] := by
    have := Blk.new (w.alloc (.cells #[.int .i64 (room : Int), .slice A L.length c] 27)) 27 #[.int .i64 0, .slice none 0 0]
    simpa using this
  have hbel : Below w.heap.size w ((w.alloc (.cells #[.int .i64 (room : Int), .slice A L.length c] 27)).alloc (.cells #[.int .i64 0, .slice none 0 0] 27)) := ((Below.refl _ _).alloc (Nat.le_refl _) _).alloc (by simp) _
  have HB0 := Lib.hid hb0; have HB1 := Lib.hid hb1; have HBEL := Lib.hid hbel
  clear hb0 hb1 hbel
  go_enter Try.func27, Try.ntmps27
  go_wp2_with (at_builtin; go_must (refine wpList_append_any _ rfl (.tmp 14) (.tmp 16) _ rfl (w.heap.size + 1 + 1) 3 i0 _ 1 8 Try.underlying22 hi0 hz0 hz1 hz2 rfl (by decide) (.slice none 0 0) 0 [] rfl (World.ownsRow_nil _ _ _ _) _ A L.length c (L.map EnI) rfl HR.out (by intro u hu; obtain ⟨y, _, rfl⟩ := List.mem_map.1 hu; rfl) (by unfold maxLen; omega) (by omega) (by simp) ?k))
  case k =>
  intro v1 w1 hown1 hg1 hat1
  have hown : OwnI w1 (w.heap.size + 1 + 1) v1 L := by simpa [OwnI] using hown1
  have hf1 : Fr (fun _ => False) ((w.alloc (.cells #[.int .i64 (room : Int), .slice A L.length c] 27)).alloc (.cells #[.int .i64 0, .slice none 0 0] 27)) w1 := (Fr.of_grown hg1).mono (fun i _ h => by simp [Value.ownBlock] at h)
  have hb0 := hf1.blk HB0.out (fun h => h)
  have hb1 := hf1.blk HB1.out (fun h => h)
  have hz1' := hf1.size
  simp at hz1'
  have hbel := HBEL.out.trans (hf1.below (by simp; omega) (fun _ h => h.elim))
  have HO := Lib.hid hown; have K0 := Lib.hid hb0; have K1 := Lib.hid hb1; have KB := Lib.hid hbel
  clear hown1 hown hg1 hat1 hf1 hb0 hb1 hbel HR HB0 HB1 HBEL
  go_wp2_with (at_builtin; go_must (refine wpList_append_any _ rfl (.tmp 18) (.tmp 20) _ rfl (w.heap.size + 1 + 1) 3 i0 _ 1 8 Try.underlying22 hi0 hz0 hz1 hz2 rfl (by decide) v1 L.length (L.map EnI) rfl (HO.out.alloc _) _ _ 1 1 [.int .i64 x] rfl (reads_one_int _ x _) (by simp [Value.oneCell']) (by unfold maxLen; omega) (by omega) (by simp; omega) ?k2))
  case k2 =>
  intro v2 w2 hown2 hg2 hat2
  have hown := OwnI.snoc hown2
  have hf2 : Fr (fun i => v1.ownBlock = some i) w1 w2 := ((Fr.refl _ w1).alloc _).trans (Fr.of_grown hg2) (fun _ _ h => h)
  have hv1 : ∀ i, v1.ownBlock = some i → w.heap.size + 1 + 1 ≤ i := fun i hi => (HO.out.lt i hi).1
  have hb0 := hf2.blk K0.out (fun h => by have := hv1 _ h; omega)
  have hb1 := hf2.blk K1.out (fun h => by have := hv1 _ h; omega)
  have hbel := KB.out.trans (hf2.below (by omega) (fun i hi => by have := hv1 i hi; omega))
  have hz2' := hbel.size
  obtain ⟨A', c', rfl, hcc, _⟩ := hown.slice
  have hc0 : w2.cell? ⟨w.heap.size, 0, none⟩ = some (.int .i64 (room : Int)) := (hb0.cell 0).trans rfl
  have hc1 : w2.cell? ⟨w.heap.size, 1, none⟩ = some (.slice A L.length c) := (hb0.cell 1).trans rfl
  have hcz1 : w2.frozen? ⟨w.heap.size, 1, none⟩ = false := hb0.frozen 1
  have hd0 : w2.cell? ⟨w.heap.size + 1, 0, none⟩ = some (.int .i64 0) := (hb1.cell 0).trans rfl
  have hd1 : w2.cell? ⟨w.heap.size + 1, 1, none⟩ = some (.slice none 0 0) := (hb1.cell 1).trans rfl
  have hdz0 : w2.frozen? ⟨w.heap.size + 1, 0, none⟩ = false := hb1.frozen 0
  have hdz1 : w2.frozen? ⟨w.heap.size + 1, 1, none⟩ = false := hb1.frozen 1
  have hfs := (((Fr.refl (fun i => i = w.heap.size ∨ i = w.heap.size + 1) w2).setCell (p := ⟨w.heap.size, 1, none⟩) (.inl (.inl rfl)) (.slice A' (L ++ [x]).length c')).setCell (p := ⟨w.heap.size + 1, 0, none⟩) (.inl (.inr rfl)) (.int .i64 (room : Int))).setCell (p := ⟨w.heap.size + 1, 1, none⟩) (.inl (.inr rfl)) (.slice A' (L ++ [x]).length c')
  have hown3 : OwnI _ (w.heap.size + 1 + 1) (.slice A' (L ++ [x]).length c') (L ++ [x]) := hfs.own hown (fun i hi => by have := (hown.lt i hi).1; omega)
  have hb3 := ((hb1.far (p := ⟨w.heap.size, 1, none⟩) (by show w.heap.size + 1 ≠ w.heap.size; omega) (.slice A' (L ++ [x]).length c')).set_ 0 (.int .i64 (room : Int))).set_ 1 (.slice A' (L ++ [x]).length c')
  have hbl3 := hbel.trans (hfs.below (by omega) (fun i hi => by omega))
  have HO3 := Lib.hid hown3; have HB3 := Lib.hid hb3; have HBL3 := Lib.hid hbl3
  have hLx : (L ++ [x]).length = L.length + 1 := by simp
  rw [hLx] at HO3 HB3 HBL3
  have HLX := Lib.hid hLx
  clear hown2 hown hg2 hat2 hf2 hv1 hb0 hb1 hbel hfs hown3 hb3 hbl3 HO K0 K1 KB hcc hLx
  go_wp2_with fail
  refine bodyPost_ret (v := .tuple #[.agg #[.int .i64 (room : Int), .slice A' (L.length + 1) c'], .int .i64 0]) (res_cell_slot rfl _ _ (w.heap.size + 1) 27 _ (0, 0) _ _ rfl rfl HB3.out Try.underlying27 rfl (by kernel_rfl)) rfl ?_
  refine ⟨A', c', by rw [HLX.out], ?_, HBL3.out⟩
  exact (RX.of_own_n HLX.out HO3.out).mono (fun i h _ => by omega)
set_option maxHeartbeats 1000000 in
theorem refPop_no (hl : L = []) :
    Calls Try.prog 28 #[.agg #[.int .i64 (room : Int), .slice A L.length c]] w fun e w' => e = .returned (.tuple #[.agg #[.int .i64 (room : Int), .slice A L.length c], .int .i64 0, .int .i64 7]) ∧ Below w.heap.size w w' := by
  subst hl
  go_enter Try.func28, Try.ntmps28
  go_wp2_with fail
  have hb := Blk.new (w.alloc (.cells #[.int .i64 (room : Int), .slice A 0 c] 27)) 27 #[.int .i64 (room : Int), .slice A 0 c]
  simp only [World.size_alloc] at hb
  refine bodyPost_ret (v := .tuple #[.agg #[.int .i64 (room : Int), .slice A 0 c], .int .i64 0, .int .i64 7]) (res_cell_slots rfl _ _ (w.heap.size + 1) 27 _ (0, 0) _ _ _ rfl rfl rfl hb Try.underlying27 rfl (by kernel_rfl)) rfl ?_
  exact ⟨rfl, ((Below.refl _ _).alloc (Nat.le_refl _) _).alloc (by simp) _⟩
set_option maxHeartbeats 4000000 in
theorem refPop_yes (y : Int) (r : List Int) (hl : L = y :: r) (h2 : L.length ≤ 1024) (D : Nat → Prop) (hx : RX w D A c L) :
    Calls Try.prog 28 #[.agg #[.int .i64 (room : Int), .slice A L.length c]] w fun e w' => ∃ A' c', e = .returned (.tuple #[.agg #[.int .i64 (room : Int), .slice A' r.length c'], .int .i64 y, .int .i64 0]) ∧ RX w' D A' c' r ∧ Below w.heap.size w w' := by
  subst hl
  have ht := hx.tail
  obtain ⟨ad, rfl, hd, hb, hc⟩ := hx.2 (by simp)
  have hcy := hc 0 y rfl
  rw [show ad.add 0 = ad by simp [Addr.add]] at hcy
  have hcc := hx.1
  simp at hcc h2
  have hcc2 : (1 : Int) ≤ (c : Int) := by omega
  have hlen : (y :: r).length = r.length + 1 := rfl
  have hbb := World.block_lt_of_cell? _ _ hcy
  have HT := Lib.hid ht
  clear ht hx hc
  by_cases hc1 : c = 1
  · have hr0 : r = [] := List.eq_nil_of_length_eq_zero (by omega)
    subst hr0
    subst hc1
    go_enter Try.func28, Try.ntmps28
    go_wp2_with fail
    have hb2 := Blk.new (w.alloc (.cells #[.int .i64 (room : Int), .slice (some ad) (0) (0)] 27)) 27 #[.int .i64 (room : Int), .slice ((some ad)) (0) (0)]
    simp only [World.size_alloc] at hb2
    refine bodyPost_ret (v := .tuple #[.agg #[.int .i64 (room : Int), .slice ((some ad)) (0) (0)], .int .i64 y, .int .i64 0]) (res_cell_slots rfl _ _ (w.heap.size + 1) 27 _ (0, 0) _ _ _ rfl rfl rfl hb2 Try.underlying27 rfl (by kernel_rfl)) rfl ?_
    refine ⟨(some ad), 0, rfl, ?_, ((Below.refl _ _).alloc (Nat.le_refl _) _).alloc (by simp) _⟩
    have h9 := HT.out
    rw [if_pos trivial] at h9
    exact (h9.alloc _).alloc _
  · have hrl : 1 ≤ r.length ∨ r.length = 0 := by omega
    have hcn : ¬ (c : Int) = 1 := by omega
    have hc3 : ¬ c = 1 := hc1
    go_enter Try.func28, Try.ntmps28
    go_wp2_with fail
    have hb2 := Blk.new (w.alloc (.cells #[.int .i64 (room : Int), .slice (some ⟨ad.block, ad.off + 1, none⟩) (r.length) (c - 1)] 27)) 27 #[.int .i64 (room : Int), .slice ((some ⟨ad.block, ad.off + 1, none⟩)) (r.length) (c - 1)]
    simp only [World.size_alloc] at hb2
    refine bodyPost_ret (v := .tuple #[.agg #[.int .i64 (room : Int), .slice ((some ⟨ad.block, ad.off + 1, none⟩)) (r.length) (c - 1)], .int .i64 y, .int .i64 0]) (res_cell_slots rfl _ _ (w.heap.size + 1) 27 _ (0, 0) _ _ _ rfl rfl rfl hb2 Try.underlying27 rfl (by kernel_rfl)) rfl ?_
    refine ⟨(some ⟨ad.block, ad.off + 1, none⟩), c - 1, rfl, ?_, ((Below.refl _ _).alloc (Nat.le_refl _) _).alloc (by simp) _⟩
    have h9 := HT.out
    rw [if_neg hc1, show Option.map (fun x => x.add 1) (some ad) = some ⟨ad.block, ad.off + 1, none⟩ by simp [Addr.add]] at h9
    exact (h9.alloc _).alloc _
end
end Go.Proofs.Ythlaaeopohilmaa
