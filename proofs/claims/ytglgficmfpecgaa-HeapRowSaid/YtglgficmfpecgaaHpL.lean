
/-
  A heap's call: List.
-/
import Derived.Test.YtglgficmfpecgaaHpD
import Derived.Test.YtglgficmfpecgaaHpShelf
import Derived.Shelf.SlSortCmp.NoneTotal
set_option linter.unusedVariables false
set_option linter.unusedSimpArgs false
namespace Go.Proofs.Ytglgficmfpecgaa
open Go.RowKit Plain

set_option maxHeartbeats 2000000 in
theorem compare_grow (a b : Tm) (w : World) : Calls Try.prog 29 #[tmV a, tmV b] w fun e w' => e = .returned (.int .i64 (cmpT a b)) ∧ ∃ q os', w' = Go.Sort.grow (w.drewN q) os' := by
  obtain ⟨a1, a2⟩ := a
  obtain ⟨b1, b2⟩ := b
  unfold tmV
  rw [show cmpT (a1, a2) (b1, b2) = orV (cmpI a2 b2) (cmpI a1 b1) from rfl]
  have HC := Lib.hid cmpi_any
  go_enter Try.func29, Try.ntmps29
  go_wp2_with fail
  go_region_held3 (fun w' => w'.cell? ⟨w.heap.size, 0, none⟩ = some (.int .i64 a1) ∧ w'.cell? ⟨w.heap.size, 1, none⟩ = some (.int .i64 a2) ∧ w'.cell? ⟨w.heap.size + 1, 0, none⟩ = some (.int .i64 b1) ∧ w'.cell? ⟨w.heap.size + 1, 1, none⟩ = some (.int .i64 b2))
    (go_keep)
    (first
      | (go_simp; go_at_call 36; (with_reducible refine (HC.out _ _ _).mono ?_); rintro e wq ⟨rfl, rfl⟩)
      | (go_simp; go_at_call 35; (with_reducible refine (or2_new (cmpI a2 b2) (cmpI a1 b1) _ _ _ (by first | with_reducible exact Or.inl rfl | with_reducible exact Or.inr rfl) (by simp)).mono ?_); rintro e wq ⟨rfl, rfl⟩)
      | fail)
  go_wp2_with fail
  go_ret
  exact ⟨rfl, 1, _, by rw [Go.Sort.alloc_eq_grow, Go.Sort.alloc_eq_grow, Go.Sort.alloc_eq_grow, Go.Sort.grow_grow, Go.Sort.grow_grow]; rfl⟩

section
open Go.Shelf Go.Sort Go.Lib
/-- A timer's two cells. -/
def enTm (t : Tm) : List Value := [.int .i64 t.1, .int .i64 t.2]
theorem ltTm (x y : Tm) : ltOf cmpT x y = decide (ahd x y) := by
  unfold ltOf
  exact decide_eq_decide.2 (cmpT_neg x y)
theorem swoTm : SWO (ltOf cmpT) where
  irrefl x := by rw [ltTm]; exact decide_eq_false (ahd_irrefl x)
  trans x y z h1 h2 := by
    rw [ltTm] at *
    have a := of_decide_eq_true h1
    have b := of_decide_eq_true h2
    exact decide_eq_true (by unfold ahd at *; omega)
  ntrans x y z h1 h2 := by
    rw [ltTm] at *
    have a := of_decide_eq_false h1
    have b := of_decide_eq_false h2
    exact decide_eq_false (by unfold ahd at *; omega)
theorem cmpLaysTm (blk off size : Nat) (w : World) : CmpLays Try.prog 29 #[] enTm 2 cmpT blk off size w :=
  fun _ _ _ _ x y => compare_grow x y _
theorem get_tm (ts : List Tm) {i : Nat} (h : i < ts.length) : ts.toArray[i]! = gt ts i := by
  have h1 := gt_some h
  rw [List.getElem?_eq_getElem h] at h1
  injection h1 with h1
  rw [getElem!_pos _ _ (by simpa using h)]
  simpa using h1
theorem holds_tm {w : World} {g : Nat} {ts : List Tm} (h : ∀ i, i < ts.length → w.cell? ⟨g, i * 2, none⟩ = some (.int .i64 (gt ts i).1) ∧ w.cell? ⟨g, i * 2 + 1, none⟩ = some (.int .i64 (gt ts i).2)) (hz : ∀ j, w.frozen? ⟨g, j, none⟩ = false) : HoldsK enTm 2 w g 0 ts.toArray := by
  intro j hj
  rw [size_flatK] at hj
  refine ⟨?_, hz _⟩
  rw [get_flatK _ _ _ _ hj]
  have hj2 : j / 2 < ts.length := by simp at hj; omega
  rw [get_tm ts hj2]
  obtain ⟨h1, h2⟩ := h _ hj2
  rcases Nat.mod_two_eq_zero_or_one j with e | e
  · rw [e, show 0 + j = j / 2 * 2 by omega, h1]
    rfl
  · rw [e, show 0 + j = j / 2 * 2 + 1 by omega, h2]
    rfl
theorem cells_tm {w : World} {g : Nat} {r : List Tm} (h : HoldsK enTm 2 w g 0 r.toArray) {i : Nat} (hi : i < r.length) : w.cell? ⟨g, i * 2, none⟩ = some (.int .i64 (gt r i).1) ∧ w.cell? ⟨g, i * 2 + 1, none⟩ = some (.int .i64 (gt r i).2) := by
  have a := (h (i * 2) (by rw [size_flatK]; simp; omega)).1
  have b := (h (i * 2 + 1) (by rw [size_flatK]; simp; omega)).1
  rw [get_flatK _ _ _ _ (by simp; omega), show i * 2 / 2 = i by omega, show i * 2 % 2 = 0 by omega, get_tm r hi, Nat.zero_add] at a
  rw [get_flatK _ _ _ _ (by simp; omega), show (i * 2 + 1) / 2 = i by omega, show (i * 2 + 1) % 2 = 1 by omega, get_tm r hi, Nat.zero_add] at b
  exact ⟨a, b⟩
theorem sortWorld_fr (w : World) (g n : Nat) (d : Array Tm) (os : Array Obj) : Fr (fun j => j = g) w (sortWorldK enTm 2 w g 0 n d os) := by
  unfold sortWorldK putRowK putRow mapBlock grow Sort.ahead
  refine ⟨rfl, rfl, rfl, by simp, fun k hk hs => ?_⟩
  simp only
  rw [Array.getElem?_append_left (by simpa using hk), Array.getElem?_modify, if_neg (fun e => hs e.symm)]
/-- What is sorted is the document's row. -/
theorem sorted_row {ts r : List Tm} (hR : Rel ts r) {d' : Array Tm} (hp : PermIn 0 ts.toArray.size ts.toArray d') (hs : SortedIn (ltOf cmpT) 0 ts.toArray.size d') : d' = r.toArray := by
  obtain ⟨h1, _, h3⟩ := hp
  have e1 : d'.extract 0 ts.toArray.size = d' := by rw [← h1]; simp
  have e2 : ts.toArray.extract 0 ts.toArray.size = ts.toArray := by simp
  rw [e1, e2] at h3
  have h4 : d'.toList.Perm r := h3.trans hR.perm
  have h5 : d'.toList.Pairwise fun a b => ¬ ahd b a := by
    rw [List.pairwise_iff_getElem]
    intro i j hi hj hij
    have hjd : j < d'.size := by simpa using hj
    have hid : i < d'.size := by simpa using hi
    have := hs i j (Nat.zero_le _) hij (by rw [← h1]; exact hjd)
    rw [ltTm, getElem!_pos d' j hjd, getElem!_pos d' i hid] at this
    simpa using of_decide_eq_false this
  have h6 := sorted_perm_eq h4 h5 hR.sorted
  rw [← h6]
set_option maxHeartbeats 1000000 in
theorem sort_tm {ts r : List Tm} (hR : Rel ts r) {w : World} {B g c : Nat} (ho : w.ownsRow B 59 2 (.slice (some ⟨g, 0, none⟩) ts.length c) ts.length (flat ts)) (hs : ts.length ≤ 10000) :
    Calls Try.prog 28 #[.slice (some ⟨g, 0, none⟩) ts.length c, .func (.func 29) #[] #[]] w fun e w' => e = .returned (.tuple #[]) ∧
      (∀ i, i < r.length → w'.cell? ⟨g, i * 2, none⟩ = some (.int .i64 (gt r i).1) ∧ w'.cell? ⟨g, i * 2 + 1, none⟩ = some (.int .i64 (gt r i).2)) ∧ Fr (fun j => j = g) w w' := by
  rcases ho.2 with ⟨h0, _⟩ | ⟨g', cap, cur, h0, hb, hc, h1, h2, h3, h4⟩
  · cases h0
  · injection h0 with h5 h6 h7
    injection h5 with h5
    injection h5 with h5
    subst h5 h7
    have hbl : Blk w g 59 cur := hc
    have hcell : ∀ i, i < ts.length → w.cell? ⟨g, i * 2, none⟩ = some (.int .i64 (gt ts i).1) ∧ w.cell? ⟨g, i * 2 + 1, none⟩ = some (.int .i64 (gt ts i).2) := fun i hi => by
      have hf := flat_at ts i _ (gt_some hi)
      rw [← h4, List.getElem?_take_of_lt (by omega), List.getElem?_take_of_lt (by omega)] at hf
      refine ⟨?_, ?_⟩
      · rw [hbl.cell, ← Array.getElem?_toList]; exact hf.1
      · rw [hbl.cell, ← Array.getElem?_toList]; exact hf.2
    have hH := holds_tm hcell (fun j => hbl.frozen j)
    have eg : ∀ args w, (callFunc 29 args).run Try.prog w = .ok (.enter 29 args) w := enters_of Try.func29 (by kernel_rfl) rfl
    have hcon := AnyQ.slices_SortFunc Try.sortTm 2 Try.isAgg59 Try.sizeOf59 enTm (fun _ => rfl) (fun x v hv => by simp [enTm] at hv; rcases hv with rfl | rfl <;> rfl) cmpT swoTm 29 #[] g 0 c ts.toArray w eg (cmpLaysTm g 0 _ w) hH hbl.lt (by simp; omega)
    refine hcon.mono ?_
    rintro e w' ⟨rfl, d', n, os, hp, hs', rfl⟩
    have hd := sorted_row hR hp hs'
    subst hd
    refine ⟨rfl, fun i hi => cells_tm ?_ hi, sortWorld_fr w g n _ os⟩
    exact holdsK_sortWorldK enTm 2 w g 0 n ts.toArray r.toArray os hbl.lt hH (by simp [hR.perm.length_eq])
end
set_option maxHeartbeats 1000000 in
theorem sort_none (A : Option Addr) (c : Nat) (fv : Value) (w : World) :
    Calls Try.prog 28 #[.slice A 0 c, fv] w fun e w' => e = .returned (.tuple #[]) ∧ w' = w := AnyF.slices_SortFunc_none Try.sortTm A c fv w
set_option maxRecDepth 100000 in
set_option maxHeartbeats 1000000 in
theorem clone_tm {B : Nat} {v : Value} {ts : List Tm} {w : World} (ho : w.ownsRow B 59 2 v ts.length (flat ts)) (hs : ts.length ≤ 10000) :
    Calls Try.prog 27 #[v] w fun e w' => ∃ v', e = .returned v' ∧ w'.ownsRow w.heap.size 59 2 v' ts.length (flat ts) ∧ Below w.heap.size w w' := by
  obtain ⟨i0, hi0, hz0, hz1, hz2⟩ := info_parts info_timer
  rcases ho.2 with ⟨rfl, h0⟩ | ⟨g, cap, cur, rfl, hb, hc, h1, h2, h3, h4⟩
  · have hnil := fun W => Go.Lib.run_eql_slice_nil (P := Try.prog) W 54 59 none 0 0 0 0 Try.underlying54
    have hts : ts = [] := List.eq_nil_of_length_eq_zero h0
    subst hts
    clear ho
    go_enter Try.func27, Try.ntmps27
    go_wp2_with fail
    go_ret
    exact ⟨_, rfl, World.ownsRow_nil _ _ _ _, Below.refl _ _⟩
  · have hnil := fun W => Go.Lib.run_eql_slice_nil (P := Try.prog) W 54 59 (some ⟨g, 0, none⟩) ts.length cap 0 0 Try.underlying54
    have hrd := Reads.of_own ho
    have hown : (w.alloc (.cells #[] 59)).ownsRow w.heap.size 59 2 (.slice (some ⟨w.heap.size, 0, none⟩) 0 0) 0 [] := ⟨rfl, .inr ⟨w.heap.size, 0, #[], rfl, Nat.le_refl _, heap_alloc_new w _, Nat.le_refl _, by unfold maxLen; omega, rfl, rfl⟩⟩
    obtain ⟨n, hn⟩ : ∃ n, ts.length = n := ⟨_, rfl⟩
    rw [hn] at hrd hnil hs ⊢
    have HR := Lib.hid (hrd.alloc (Nat.le_refl _) (.cells #[] 59)); have HN := Lib.hid hn
    have hb1 : 0 + n ≤ maxLen := by unfold maxLen; omega
    have hb2 : (0 + n) * 16 ≤ 140737488355328 := by omega
    have HB1 := Lib.hid hb1; have HB2 := Lib.hid hb2
    obtain ⟨F, hF⟩ : ∃ F, F = flat ts := ⟨_, rfl⟩
    have ho1 : ∀ u ∈ F, u.oneCell' = true := by rw [hF]; exact flat_one
    rw [← hF] at HR ⊢
    have HO1 := Lib.hid ho1
    have hb3 : w.heap.size ≤ (w.alloc (.cells #[] 59)).heap.size := by simp
    have HB3 := Lib.hid hb3
    clear ho hrd hn hb1 hb2 hF ho1 hb hc h1 h2 h3 h4 hb3
    go_enter Try.func27, Try.ntmps27
    go_wp2_with (at_builtin; go_must (refine wpList_append_any _ rfl (.tmp 5) (.tmp 6) _ rfl w.heap.size 59 i0 _ 2 16 Try.underlying54 hi0 hz0 hz1 hz2 rfl (by decide) (.slice (some ⟨w.heap.size, 0, none⟩) 0 0) 0 [] rfl hown _ _ n cap F rfl HR.out HO1.out HB1.out HB2.out HB3.out ?_))
    intro v5 w6 hown6 hgr hat
    have hbel : Below w.heap.size w w6 := ((Below.refl w.heap.size w).alloc (Nat.le_refl _) _).grown hgr (by simp) (fun r hr => by simp [Value.ownBlock] at hr; omega)
    have hown7 : w6.ownsRow w.heap.size 59 2 v5 n F := by simpa using hown6
    have H7 := Lib.hid hown7; have HB := Lib.hid hbel
    clear hown7 hbel hown6 hgr hat hown
    go_wp2_with fail
    go_ret
    exact ⟨_, rfl, H7.out, HB.out⟩
section
variable {w : World} {B h n : Nat} {ts r : List Tm}
theorem own_less {w : World} {base base' : Nat} {e : TypeId} {size n : Nat} {v : Value} {xs : List Value} (h : w.ownsRow base e size v n xs) (hb : base' ≤ base) : w.ownsRow base' e size v n xs := by
  refine ⟨h.1, ?_⟩
  rcases h.2 with h0 | ⟨g, cap, cur, e1, h1, h2⟩
  · exact .inl h0
  · exact .inr ⟨g, cap, cur, e1, by omega, h2⟩
set_option maxRecDepth 100000 in
set_option maxHeartbeats 4000000 in
theorem list_hp (H : HP w B h ts n) (hR : Rel ts r) (hs : ts.length ≤ 10000) : Calls Try.prog 12 #[.pointer (some ⟨h, 0, none⟩)] w fun e w' => ∃ v, e = .returned v ∧ OwnI w' w.heap.size v (r.map (·.1)) ∧ Below w.heap.size w w' := by
  obtain ⟨i0, hi0, hz0, hz1, hz2⟩ := info_parts info_int
  obtain ⟨m, v, f, H, hv⟩ := H
  obtain ⟨c0, _⟩ := H.box_cells
  obtain ⟨A, c, rfl, _⟩ := H.slice
  have hcl := clone_tm H.row hs
  have HC := Lib.hid hcl; have HR := Lib.hid hR; have HS := Lib.hid hs
  have hlen := hR.perm.length_eq
  have HL := Lib.hid hlen
  clear hcl hR H hv hlen hs
  go_enter Try.func12, Try.ntmps12
  go_wp2_with fail
  refine HC.out.mono ?_
  rintro e w1 ⟨v1, rfl, ho1, hb1⟩
  have HO1 := Lib.hid ho1; have HB1 := Lib.hid hb1
  clear HC c0
  rcases ho1.2 with ⟨rfl, h0⟩ | ⟨g, cap, cur, rfl, hgb, hc, _⟩
  · have hts : ts = [] := List.eq_nil_of_length_eq_zero h0
    have hr0 : r = [] := List.eq_nil_of_length_eq_zero (by rw [← HL.out, hts]; rfl)
    subst hr0
    have hsn := fun fv => sort_none none 0 fv w1
    have HSN := Lib.hid hsn
    clear ho1 hb1 hsn
    go_wp2_with fail
    refine (HSN.out _).mono ?_
    rintro e w2 ⟨rfl, rfl⟩
    go_wp2_with fail
    go_loopw [4, 16] (fun s4 s16 wr => s4 = .slice none 0 0 ∧ s16 = .int .i64 0 ∧ wr = w2) (fun _ _ _ => 0)
    case atStart => exact ⟨rfl, rfl, rfl⟩
    case round =>
      obtain ⟨rfl, rfl, rfl⟩ := hrel
      go_wp2_with fail
      go_ret
      exact ⟨_, rfl, World.ownsRow_nil _ _ _ _, HB1.out⟩
  · have hsr := sort_tm HR.out HO1.out HS.out
    have hgl : g < w1.heap.size := (HO1.out.lt g rfl).2
    obtain ⟨len, hle⟩ : ∃ len, ts.length = len := ⟨_, rfl⟩
    have HLE := Lib.hid hle
    have hs : len ≤ 10000 := by rw [← hle]; exact HS.out
    rw [hle] at hsr ⊢
    have HSR := Lib.hid hsr
    clear ho1 hb1 hsr hle hc
    go_wp2_with fail
    refine HSR.out.mono ?_
    rintro e w2 ⟨rfl, hcl, hfr⟩
    have hb2 : Below w.heap.size w w2 := HB1.out.trans (hfr.below HB1.out.size (fun i hi => by omega))
    have hgl2 : g < w2.heap.size := Nat.lt_of_lt_of_le hgl hfr.size
    have HCL := Lib.hid hcl; have HB2 := Lib.hid hb2
    have hrl : r.length = len := by rw [← HL.out]; exact HLE.out
    have HRL := Lib.hid hrl
    clear hcl hfr hb2 hgl hrl HSR
    go_wp2_with fail
    go_loopw [4, 16] (fun s3 s4 wr => ∃ (i : Nat) (A3 : Option Addr) (c3 : Nat) (L : List Int), i ≤ len ∧ s4 = .int .i64 (i : Int) ∧ s3 = .slice A3 i c3 ∧ i ≤ c3 ∧ Hid (L = (r.take i).map (·.1)) ∧ Hid (Below w2.heap.size w2 wr) ∧ Hid (wr.ownsRow w2.heap.size 3 1 s3 i (L.map EnI))) (fun _ s4 _ => len - (intOf s4).toNat)
    case atStart => exact ⟨0, none, 0, [], by omega, rfl, rfl, by omega, Lib.hid (by simp), Lib.hid (Below.refl _ _), Lib.hid (World.ownsRow_nil _ _ _ _)⟩
    case round =>
      obtain ⟨i, A3, c3, L, hi, rfl, rfl, hc3, hL, hb, ho⟩ := hrel
      by_cases hlt : i < len
      · obtain ⟨x0, x1⟩ := HCL.out i (by rw [HRL.out]; exact hlt)
        rw [← hb.out.cell (p := ⟨g, i * 2, none⟩) hgl2] at x0
        rw [← hb.out.cell (p := ⟨g, i * 2 + 1, none⟩) hgl2] at x1
        obtain ⟨t, ht⟩ : ∃ t, t = gt r i := ⟨_, rfl⟩
        rw [← ht] at x0 x1
        obtain ⟨t1, t2⟩ := t
        have HT := Lib.hid ht
        have hlt' : (i : Int) < (len : Int) := by omega
        have hwz := hb.out.size
        have hro : ((wr.alloc (.cells #[.int .i64 t1, .int .i64 t2] 59)).alloc (.cells #[.int .i64 t1] 3)).ownsRow w2.heap.size 3 1 (.slice A3 i c3) i (L.map EnI) := (((Fr.refl (fun _ => False) wr).alloc _).alloc _).own ho.out (fun _ _ h => h)
        have h1c : ∀ u ∈ [(Value.int .i64 t1)], u.oneCell' = true := by simp [Value.oneCell']
        have hb1 : i + 1 ≤ maxLen := by unfold maxLen; omega
        have hb2 : (i + 1) * 8 ≤ 140737488355328 := by omega
        have hb3 : w2.heap.size ≤ ((wr.alloc (.cells #[.int .i64 t1, .int .i64 t2] 59)).alloc (.cells #[.int .i64 t1] 3)).heap.size := by simp; omega
        have hrd : Reads ((wr.alloc (.cells #[.int .i64 t1, .int .i64 t2] 59)).alloc (.cells #[.int .i64 t1] 3)) (wr.heap.size + 1 + 1) 1 (some ⟨wr.heap.size + 1, 0, none⟩) 1 [.int .i64 t1] := by
          have := reads_one_int (wr.alloc (.cells #[.int .i64 t1, .int .i64 t2] 59)) t1 3
          simpa using this
        have HRO := Lib.hid hro; have HRD := Lib.hid hrd; have H1C := Lib.hid h1c; have HB1 := Lib.hid hb1; have HB2 := Lib.hid hb2; have HB3 := Lib.hid hb3
        clear hro h1c hb1 hb2 hb3 hrd ht hwz
        go_wp2_with (at_builtin; go_must (refine wpList_append_any _ rfl (.tmp 20) (.tmp 23) _ rfl w2.heap.size 3 i0 _ 1 8 Try.underlying32 hi0 hz0 hz1 hz2 rfl (by omega) _ i (L.map EnI) rfl HRO.out (wr.heap.size + 1 + 1) (some ⟨wr.heap.size + 1, 0, none⟩) 1 1 _ rfl HRD.out H1C.out HB1.out HB2.out HB3.out ?_))
        intro v' w3 hr1 hg1 hv1
        have hal : Below w2.heap.size w2 ((wr.alloc (.cells #[.int .i64 t1, .int .i64 t2] 59)).alloc (.cells #[.int .i64 t1] 3)) := (hb.out.alloc hb.out.size _).alloc (Nat.le_trans hb.out.size (by simp)) _
        have hbb : Below w2.heap.size w2 w3 := hal.grown hg1 hal.size (own_base HRO.out)
        have hL2 : L ++ [t1] = (r.take (i + 1)).map (·.1) := by
          rw [List.take_add_one, gt_some (show i < r.length by rw [HRL.out]; exact hlt), hL.out, ← HT.out]
          simp
        have hr2 : w3.ownsRow w2.heap.size 3 1 v' (i + 1) ((L ++ [t1]).map EnI) := by simpa using hr1
        have hsh : ∃ A' c', v' = .slice A' (i + 1) c' ∧ i + 1 ≤ c' := by
          rcases hr2.2 with ⟨_, h0⟩ | ⟨g', cap, cur, e, _, _, hcap, _⟩
          · omega
          · exact ⟨_, cap, e, hcap⟩
        obtain ⟨A', c', rfl, hc'⟩ := hsh
        have HBB := Lib.hid hbb; have HR2 := Lib.hid hr2; have HL2 := Lib.hid hL2
        clear hr1 hg1 hv1 hal hbb hr2 hL2 HRO HRD
        go_wp2_with fail
        exact ⟨⟨i + 1, A', c', L ++ [t1], by omega, by go_num, rfl, hc', HL2, HBB, HR2⟩, by simp [intOf]; omega⟩
      · have hie : i = len := by omega
        subst hie
        go_wp2_with fail
        go_ret
        have e1 := hL.out
        refine ⟨_, rfl, ?_, HB2.out.trans (hb.out.mono HB2.out.size)⟩
        have hta : r.take i = r := List.take_of_length_le (by rw [HRL.out]; exact Nat.le_refl _)
        rw [hta] at e1
        have h4 := ho.out
        rw [e1] at h4
        unfold OwnI
        rw [show (r.map (·.1)).length = i by rw [List.length_map]; exact HRL.out]
        exact own_less h4 HB2.out.size
end
end Go.Proofs.Ytglgficmfpecgaa
