
/-
  The document's pool: cut, Pull, All.
-/
import Derived.Test.YtipflplilkecjaaDqE
set_option linter.unusedVariables false
set_option linter.unusedSimpArgs false
namespace Go.Proofs.Ytipflplilkecjaa
open Go.RowKit Plain

theorem erase_at {l : List Int} {i : Nat} {x : Int} (hi : l[i]? = some x) (hne : ∀ j : Nat, j < i → l[j]? ≠ some x) : l.erase x = l.take i ++ l.drop (i + 1) := by
  have hm := List.mem_of_getElem? hi
  obtain ⟨k, h1, h2, h3⟩ := first_of hm
  have hki : k = i := by
    rcases Nat.lt_trichotomy k i with h | h | h
    · exact absurd h1 (hne k h)
    · exact h
    · exact absurd hi (h2 i h)
  subst hki
  rw [← h3, List.eraseIdx_eq_take_drop_succ]
set_option maxRecDepth 100000 in
set_option maxHeartbeats 2000000 in
theorem cut_doc (A : Option Addr) (c : Nat) (l : List Int) (x : Int) (w : World) (E : Nat → Prop) (h : RX w E A c l) (n : Nat) (hn : l.length = n) (hl : n ≤ 1000000) :
    Calls Try.prog 51 #[.slice A n c, .int .i64 x] w fun e w' => ∃ A' c', e = .returned (.tuple #[.slice A' (l.erase x).length c', .bool (decide (x ∈ l))]) ∧ RX w' (fun k => E k ∨ w.heap.size ≤ k) A' c' (l.erase x) ∧ Below w.heap.size w w' := by
  obtain ⟨i0, hi0, hz0, hz1, hz2⟩ := info_parts info_int
  have hR := h.reads
  rw [hn] at hR
  have hcl := h.1
  rw [hn] at hcl
  have H := Lib.hid h; have HR := Lib.hid hR; have HN := Lib.hid hn
  clear h hR hn
  go_enter Try.func51, Try.ntmps51
  go_wp2_with fail
  go_loopw [6] (fun s6 wr => ∃ i : Nat, i ≤ n ∧ s6 = .int .i64 (i : Int) ∧ Hid (∀ j : Nat, j < i → l[j]? ≠ some x) ∧ w = wr) (fun s6 _ => n - (intOf s6).toNat)
  case atStart => exact ⟨0, by omega, rfl, Lib.hid (fun j hj => by omega), rfl⟩
  case round =>
    obtain ⟨i, hi, rfl, HI, rfl⟩ := hrel
    by_cases hlt : i < n
    · obtain ⟨ad, y, rfl, hab, hy, hcx⟩ := HR.out.num hlt
      by_cases hxy : y = x
      · subst hxy
        have her := erase_at hy HI.out
        have hlen : (l.erase y).length = n - 1 := by rw [her, List.length_append, List.length_take, List.length_drop, HN.out]; omega
        have hmem : y ∈ l := List.mem_of_getElem? hy
        have hfew := HR.out.few (m := i) (by omega)
        have hcut := HR.out.cut (k := i + 1) (cap := c) (by omega) (by omega)
        simp only [Nat.mul_one] at hcut
        have HER := Lib.hid her; have HLEN := Lib.hid hlen; have HMEM := Lib.hid hmem; have HFEW := Lib.hid hfew; have HCUT := Lib.hid hcut
        have hik : IntKind.i64.wrap ((i : Int) + 1) = (i : Int) + 1 := IntWalk.i64_in _ (by omega)
        have j0 : (0 : Int) ≤ (i : Int) := by omega
        have j1 : (i : Int) ≤ (c : Int) := by omega
        have j2 : i ≤ c := by omega
        have j3 : (0 : Int) ≤ (i : Int) + 1 := by omega
        have j4 : (i : Int) + 1 ≤ (n : Int) := by omega
        have j5 : i + 1 ≤ n := by omega
        have hlt2 : i < l.length := by rw [HN.out]; exact hlt
        clear her hlen hmem hfew hcut hy
        go_wp2_with (at_builtin; go_must (refine wpList_append_any _ rfl (.tmp 20) (.tmp 23) _ rfl w.heap.size 3 i0 _ 1 8 Try.underlying26 hi0 hz0 hz1 hz2 rfl (by decide) (.slice none 0 0) 0 [] rfl (World.ownsRow_nil _ _ _ _) _ (some ad) i c ((l.take i).map EnI) rfl HFEW.out (all_int _) ?f1 ?f2 (Nat.le_refl _) ?f4))
        case f1 => unfold maxLen; omega
        case f2 => omega
        case f4 =>
        intro v5 w6 hown hgr hat
        have hown2 : w6.ownsRow w.heap.size 3 1 v5 i ((l.take i).map EnI) := by simpa using hown
        have hbl : Below w.heap.size w w6 := (Below.refl _ w).grown hgr (Nat.le_refl _) (by simp [Value.ownBlock])
        have hz := hbl.size
        have HO := Lib.hid hown2; have HBL := Lib.hid hbl
        clear hown hgr hat hown2 hbl
        by_cases hc1 : c = i + 1
        · obtain rfl : n = i + 1 := by omega
          subst hc1
          have hcut := HCUT.out
          rw [if_pos rfl, Nat.sub_self] at hcut
          have HC2 := Lib.hid (hcut.below HBL.out)
          clear hcut HCUT
          go_wp2_with (at_builtin; go_must (refine wpList_append_any _ rfl (.tmp 25) (.tmp 29) _ rfl w.heap.size 3 i0 _ 1 8 Try.underlying26 hi0 hz0 hz1 hz2 rfl (by decide) v5 i ((l.take i).map EnI) rfl HO.out _ (some ad) 0 0 ((l.map EnI).drop (i + 1)) rfl HC2.out (by rw [← List.map_drop]; exact all_int _) ?f1 ?f2 hz ?f4))
          case f1 => unfold maxLen; omega
          case f2 => omega
          case f4 =>
          intro v7 w8 hown hgr hat
          have hown2 : OwnI w8 w.heap.size v7 (l.erase y) := by
            unfold OwnI
            rw [HER.out, List.map_append, List.map_take, List.map_drop, List.length_append, List.length_take, List.length_drop]
            have e1 : min i l.length + (l.length - (i + 1)) = i + (0) := by rw [HN.out]; omega
            rw [e1]
            simpa [List.map_take] using hown
          have hbl : Below w.heap.size w w8 := HBL.out.grown hgr hz (fun r hr => (HO.out.lt r hr).1)
          have HO2 := Lib.hid hown2; have HBL2 := Lib.hid hbl
          clear hown hgr hat hown2 hbl
          go_wp2_with fail
          go_ret2
          obtain ⟨A', c', hv, _, _⟩ := HO2.out.slice
          subst hv
          exact ⟨A', c', by rw [decide_eq_true HMEM.out]; rfl, (RX.of_own HO2.out).mono (fun k hk _ => .inr hk), HBL2.out⟩
        · have hcut := HCUT.out
          rw [if_neg hc1, show (some ad : Option Addr).map (·.add (i + 1)) = some (ad.add (i + 1)) from rfl] at hcut
          have HC2 := Lib.hid (hcut.below HBL.out)
          clear hcut HCUT
          go_wp2_with (at_builtin; go_must (refine wpList_append_any _ rfl (.tmp 25) (.tmp 29) _ rfl w.heap.size 3 i0 _ 1 8 Try.underlying26 hi0 hz0 hz1 hz2 rfl (by decide) v5 i ((l.take i).map EnI) rfl HO.out _ (some (ad.add (i + 1))) (n - (i + 1)) (c - (i + 1)) ((l.map EnI).drop (i + 1)) rfl HC2.out (by rw [← List.map_drop]; exact all_int _) ?f1 ?f2 hz ?f4))
          case f1 => unfold maxLen; omega
          case f2 => omega
          case f4 =>
          intro v7 w8 hown hgr hat
          have hown2 : OwnI w8 w.heap.size v7 (l.erase y) := by
            unfold OwnI
            rw [HER.out, List.map_append, List.map_take, List.map_drop, List.length_append, List.length_take, List.length_drop]
            have e1 : min i l.length + (l.length - (i + 1)) = i + ((n - (i + 1))) := by rw [HN.out]; omega
            rw [e1]
            simpa [List.map_take] using hown
          have hbl : Below w.heap.size w w8 := HBL.out.grown hgr hz (fun r hr => (HO.out.lt r hr).1)
          have HO2 := Lib.hid hown2; have HBL2 := Lib.hid hbl
          clear hown hgr hat hown2 hbl
          go_wp2_with fail
          go_ret2
          obtain ⟨A', c', hv, _, _⟩ := HO2.out.slice
          subst hv
          exact ⟨A', c', by rw [decide_eq_true HMEM.out]; rfl, (RX.of_own HO2.out).mono (fun k hk _ => .inr hk), HBL2.out⟩
      · have hnx : ∀ j : Nat, j < i + 1 → l[j]? ≠ some x := fun j hj e => by
          rcases Nat.lt_or_ge j i with h1 | h1
          · exact HI.out j h1 e
          · obtain rfl : j = i := by omega
            rw [hy] at e
            injection e with e
            exact hxy e
        have HNX := Lib.hid hnx
        clear hnx hy
        go_wp2_with fail
        exact ⟨⟨i + 1, by omega, by go_num, HNX, trivial⟩, by simp [intOf]; omega⟩
    · have hnm : x ∉ l := fun hm => by
        obtain ⟨j, hj⟩ := List.getElem?_of_mem hm
        have := (List.getElem?_eq_some_iff.1 hj).1
        exact HI.out j (by rw [HN.out] at this; omega) hj
      have hers : l.erase x = l := List.erase_of_not_mem hnm
      have HNM := Lib.hid hnm; have HERS := Lib.hid hers
      clear hnm hers
      go_wp2_with fail
      go_ret2
      refine ⟨A, c, ?_, ?_, Below.refl _ _⟩
      · rw [HERS.out, HN.out, decide_eq_false HNM.out]; rfl
      · rw [HERS.out]; exact H.out.mono (fun k h _ => .inl h)
section
variable (room : Nat) (lA gA : Option Addr) (lc gc : Nat) (L : List (List Int)) (Q : List Int) (w : World) (E : Nat → Prop) (h : DocP w E lA lc gA gc L Q) (N M : Nat) (hN : L.length = N) (hM : Q.length = M) (hN64 : N ≤ 64) (hM6 : M ≤ 1000000) (hr8 : room ≤ 8) (hlr : ∀ (i : Nat) (l : List Int), L[i]? = some l → l.length ≤ room)
include h hN hM hN64 hM6 hr8 hlr
set_option maxRecDepth 100000 in
set_option maxHeartbeats 4000000 in
theorem refPull7 (x : Int) : Calls Try.prog 37 #[.agg (DocV room lA N lc gA M gc), .int .i64 x] w fun e w' => ∃ v, e = .returned (.tuple #[v, .bool (pullP L Q x).2]) ∧ DocR w w' E room N (pullP L Q x).1.1 (pullP L Q x).1.2 v := by
  have hT := Two.new w room lA N lc gA M gc
  have HT := Lib.hid hT; have H := Lib.hid h; have HN := Lib.hid hN; have HM := Lib.hid hM; have HLR := Lib.hid hlr
  have hst : Two w _ room lA N lc gA M gc ∧ ∀ (j : Nat) (l' : List Int), j < 0 → L[j]? = some l' → x ∉ l' := ⟨hT, fun j l' hj => by omega⟩
  have HST := Lib.hid hst
  obtain ⟨p0, p1, p2, pz⟩ := hT.xs
  clear hT h hN hM hlr hst
  go_enter Try.func37, Try.ntmps37
  go_wp2_with fail
  clear p0 p1 p2 pz
  go_loopw [6] (fun s6 wr => ∃ k : Nat, k ≤ N ∧ s6 = .int .i64 (k : Int) ∧ Hid (Two w wr room lA N lc gA M gc ∧ ∀ (j : Nat) (l' : List Int), j < k → L[j]? = some l' → x ∉ l')) (fun s6 _ => N - (intOf s6).toNat)
  case atStart => exact ⟨0, by omega, rfl, HST⟩
  case round =>
    clear HST HT
    obtain ⟨k, hk, rfl, HI⟩ := hrel
    have hwz := HI.out.1.bel.size
    have hbl1 := HI.out.1.b1.lt
    have hbl2 := HI.out.1.b2.lt
    obtain ⟨p0, p1, p2, pz⟩ := HI.out.1.xs
    obtain ⟨⟨q0, q1, q2⟩, qz0, qz1, qz2⟩ := HI.out.1.ys
    have hd0 := ((H.out.mono (E' := fun k => E k ∧ k < w.heap.size) (fun k e hk => ⟨e, hk⟩)).below HI.out.1.bel (Nat.le_refl _)).mono (E' := fun k => (E k ∧ k < w.heap.size) ∨ wr.heap.size ≤ k) (fun k e _ => .inl e)
    by_cases hlt : k < N
    · have hkL : k < L.length := by rw [HN.out]; exact hlt
      have hx : L[k]? = some L[k] := List.getElem?_eq_getElem hkL
      have hlk := HLR.out k _ hx
      generalize L[k] = l at *
      obtain ⟨ad, A, c, e0, hab, hcr, hrx⟩ := hd0.at_ hx
      subst e0
      obtain ⟨n, hn⟩ : ∃ n, l.length = n := ⟨_, rfl⟩
      rw [hn] at hcr hlk
      have hct := cut_doc A c l x wr _ hrx n hn (by omega)
      have HCT := Lib.hid hct; have HX := Lib.hid hx
      have k0 : (0 : Int) ≤ (k : Int) := by omega
      have k1 : (k : Int) < (N : Int) := by omega
      by_cases hm : x ∈ l
      · have hp := pullP_hit (Q := Q) hx hm HI.out.2
        have hbm : decide (x ∈ l) = true := decide_eq_true hm
        rw [hbm] at HCT
        obtain ⟨le, hle⟩ : ∃ le, le = l.erase x := ⟨_, rfl⟩
        obtain ⟨ne, hne⟩ : ∃ ne, ne = le.length := ⟨_, rfl⟩
        rw [← hle] at HCT hp
        rw [← hne] at HCT
        have hwith : ∀ (w1 : World) (A1 : Option Addr) (c1 : Nat), RX w1 (fun k => ((E k ∧ k < w.heap.size) ∨ wr.heap.size ≤ k) ∨ wr.heap.size ≤ k) A1 c1 le → Below wr.heap.size wr w1 → Calls Try.prog 47 #[.agg (DocV room (some ad) N lc gA M gc), .int .i64 (k : Int), .slice A1 ne c1] w1 fun e w2 =>
            ∃ lA' lc', e = .returned (.agg (DocV room lA' N lc' gA M gc)) ∧ Hid (DocP w2 (fun k => (E k ∧ k < w.heap.size) ∨ wr.heap.size ≤ k) lA' lc' gA gc (L.set k le) Q ∧ Two w w2 room (some ad) N lc gA M gc) := fun w1 A1 c1 h1 hb1 => by
          refine (with_any room (some ad) gA lc gc L Q w1 k le A1 c1 ne (fun k => (E k ∧ k < w.heap.size) ∨ wr.heap.size ≤ k) (hd0.below hb1 (Nat.le_refl _)) hkL (h1.mono (fun k h _ => by rcases h with h | h; exact h; exact .inr h)) hne.symm N M HN.out hN64).mono ?_
          rintro e w2 ⟨lA', lc', rfl, q1, q2⟩
          have hz1 := hb1.size
          exact ⟨lA', lc', rfl, Lib.hid ⟨q1.mono (fun k h _ => by rcases h with h | h; exact h; exact .inr (by omega)), (HI.out.1.below hb1).below q2⟩⟩
        have HW := Lib.hid hwith; have HP := Lib.hid hp
        clear hct hx hwith hp hbm hle hne hkL hd0 hrx hn hlk hm
        go_wp2_with fail
        refine HCT.out.mono ?_
        rintro e w1 ⟨A1, c1, rfl, hr1, hb1⟩
        have HW1 := Lib.hid (HW.out w1 A1 c1 hr1 hb1)
        obtain ⟨p0, p1, p2, pz⟩ := (HI.out.1.below hb1).xs
        clear hr1 hb1 HW HCT hcr
        go_wp2_with fail
        refine HW1.out.mono ?_
        rintro e w2 ⟨lA2, lc2, rfl, HR2⟩
        obtain ⟨⟨v0, v1, v2⟩, vz0, vz1, vz2⟩ := HR2.out.2.ys
        go_wp2_with fail
        obtain ⟨f1, f2⟩ := HR2.out.2.fin (.int .i64 (room : Int)) (.slice lA2 N lc2) (.slice gA M gc)
        refine bodyPost_ret (v := .tuple #[.agg (DocV room lA2 N lc2 gA M gc), .bool true]) (res_cell_slot rfl _ _ (w.heap.size + 1) 28 _ (0, 0) _ _ rfl rfl f1 Try.underlying28 rfl (by kernel_rfl)) rfl ?_
        rw [HP.out]
        exact ⟨_, rfl, DocR.of HM.out (fin_doc HR2.out.1 hbl2 hwz) (HR2.out.2.bel.trans f2)⟩
      · have hbm : decide (x ∈ l) = false := decide_eq_false hm
        rw [hbm] at HCT
        have hnx : ∀ (j : Nat) (l' : List Int), j < k + 1 → L[j]? = some l' → x ∉ l' := fun j l' hj e => by
          rcases Nat.lt_or_ge j k with h1 | h1
          · exact HI.out.2 j l' h1 e
          · obtain rfl : j = k := by omega
            rw [hx] at e
            injection e with e
            subst e
            exact hm
        have HNX := Lib.hid hnx
        clear hct hx hbm hkL hd0 hrx hn hlk hm hnx
        go_wp2_with fail
        refine HCT.out.mono ?_
        rintro e w1 ⟨A1, c1, rfl, -, hb1⟩
        have HT1 := Lib.hid (HI.out.1.below hb1)
        clear hb1 HCT hcr
        go_wp2_with fail
        exact ⟨⟨k + 1, by omega, by go_num, Lib.hid ⟨HT1.out, HNX.out⟩⟩, by simp [intOf]; omega⟩
    · have hp := pullP_miss (L := L) (Q := Q) (x := x) (fun j l' e => HI.out.2 j l' (by have := (List.getElem?_eq_some_iff.1 e).1; rw [HN.out] at this; omega) e)
      have hct := cut_doc gA gc Q x wr _ hd0.glob M HM.out hM6
      obtain ⟨qe, hqe⟩ : ∃ qe, qe = Q.erase x := ⟨_, rfl⟩
      obtain ⟨ne, hne⟩ : ∃ ne, ne = qe.length := ⟨_, rfl⟩
      obtain ⟨bb, hbb⟩ : ∃ b, b = decide (x ∈ Q) := ⟨_, rfl⟩
      rw [← hqe, ← hbb] at hct hp
      rw [← hne] at hct
      have HCT := Lib.hid hct; have HP := Lib.hid hp; have HNE := Lib.hid hne
      clear hct hp hqe hne hbb hd0
      go_wp2_with fail
      refine HCT.out.mono ?_
      rintro e w1 ⟨A1, c1, rfl, hr1, hb1⟩
      have hT1 := HI.out.1.below hb1
      obtain ⟨p0, p1, p2, pz⟩ := hT1.xs
      obtain ⟨⟨q0, q1, q2⟩, qz0, qz1, qz2⟩ := hT1.ys
      have HT1 := Lib.hid hT1; have HRX := Lib.hid hr1
      clear hr1 hb1 hT1 HCT
      go_wp2_with fail
      have hset := (Fr.refl (fun k => k = w.heap.size) w1).setCell (p := ⟨w.heap.size, 2, none⟩) (.inl rfl) (.slice A1 ne c1)
      have hb1 := HT1.out.b1.set_ 2 (.slice A1 ne c1)
      have hT2 : Two w _ room lA N lc A1 ne c1 := ⟨by simpa using hb1, hset.blk HT1.out.b2 (by omega), HT1.out.bel.trans (hset.below HT1.out.bel.size (fun i hi => by omega))⟩
      obtain ⟨f1, f2⟩ := hT2.fin (.int .i64 (room : Int)) (.slice lA N lc) (.slice A1 ne c1)
      refine bodyPost_ret (v := .tuple #[.agg (DocV room lA N lc A1 ne c1), .bool bb]) (res_cell_slot rfl _ _ (w.heap.size + 1) 28 _ (0, 0) _ _ rfl rfl f1 Try.underlying28 rfl (by kernel_rfl)) rfl ?_
      have hbt := hT2.bel.trans f2
      have hd := H.out.later hbt
      rw [HP.out]
      refine ⟨_, rfl, DocR.of HNE.out.symm ⟨hd.le, hd.rows, ?_⟩ hbt⟩
      have hfr : Fr (fun k => k = w.heap.size ∨ k = w.heap.size + 1) w1 _ := (hset.mono (fun _ _ h => .inl h)).trans ((Fr.refl (fun k => k = w.heap.size + 1) _).set3 (g := w.heap.size + 1) (.inl rfl) (.int .i64 (room : Int)) (.slice lA N lc) (.slice A1 ne c1)) (fun _ _ h => .inr h)
      exact (HRX.out.fr hfr (fun i hi hl => by rcases hi with (hi | hi) | hi <;> omega)).mono (fun k hk _ => by rcases hk with (hk | hk) | hk; exact .inl hk.1; exact .inr (by omega); exact .inr (by omega))
set_option maxRecDepth 100000 in
set_option maxHeartbeats 2000000 in
theorem refAll7 : Calls Try.prog 30 #[.agg (DocV room lA N lc gA M gc)] w fun e w' => ∃ v, e = .returned v ∧ OwnI w' w.heap.size v (L.flatten ++ Q) ∧ Below w.heap.size w w' := by
  obtain ⟨i0, hi0, hz0, hz1, hz2⟩ := info_parts info_int
  have hflen : ∀ k, k ≤ L.length → ((L.take k).flatten).length ≤ k * 8 := by
    intro k
    induction k with
    | zero => intro _; simp
    | succ k ih =>
      intro hk
      have hx : L[k]? = some L[k] := List.getElem?_eq_getElem (by omega)
      rw [flat_succ hx, List.length_append]
      have := ih (by omega)
      have := hlr k _ hx
      omega
  have hbx := Blk.new w 28 (DocV room lA N lc gA M gc)
  have hb0 : Below w.heap.size w (w.alloc (.cells (DocV room lA N lc gA M gc) 28)) := (Below.refl _ w).alloc (Nat.le_refl _) _
  have H := Lib.hid h; have HN := Lib.hid hN; have HM := Lib.hid hM; have HLR := Lib.hid hlr; have HFL := Lib.hid hflen; have HBX := Lib.hid hbx; have HB0 := Lib.hid hb0
  have hu := hr8
  clear h hN hM hlr hflen hb0
  go_enter Try.func30, Try.ntmps30
  go_wp2_with fail
  go_loopw [3, 4] (fun s3 s4 wr => ∃ (v : Value) (k : Nat) (acc : List Int), v = s3 ∧ k ≤ N ∧ s4 = .int .i64 (k : Int) ∧ Hid (acc = (L.take k).flatten ∧ OwnI wr (w.heap.size + 1) v acc ∧ Below w.heap.size w wr ∧ Blk wr w.heap.size 28 (DocV room lA N lc gA M gc))) (fun _ s4 _ => N - (intOf s4).toNat)
  case atStart => exact ⟨_, 0, [], rfl, by omega, rfl, Lib.hid ⟨by simp, OwnI.nil _ _, HB0.out, HBX.out⟩⟩
  case round =>
    clear HBX HB0 hbx
    obtain ⟨v, k, acc, rfl, hk, rfl, HI⟩ := hrel
    have hd0 := H.out.below HI.out.2.2.1 (Nat.le_refl _)
    have x1 : wr.cell? ⟨w.heap.size, 1, none⟩ = some (.slice lA N lc) := (HI.out.2.2.2.cell 1).trans rfl
    have x2 : wr.cell? ⟨w.heap.size, 2, none⟩ = some (.slice gA M gc) := (HI.out.2.2.2.cell 2).trans rfl
    have hal : acc.length ≤ N * 8 := by
      rw [HI.out.1]
      have := HFL.out k (by rw [HN.out]; exact hk)
      omega
    have hzb := HI.out.2.2.2.lt
    by_cases hlt : k < N
    · have hkL : k < L.length := by rw [HN.out]; exact hlt
      have hx : L[k]? = some L[k] := List.getElem?_eq_getElem hkL
      have hlk := HLR.out k _ hx
      generalize L[k] = l at *
      obtain ⟨ad, A, c, e0, hab, hcr, hrx⟩ := hd0.at_ hx
      subst e0
      obtain ⟨n, hn⟩ : ∃ n, l.length = n := ⟨_, rfl⟩
      rw [hn] at hcr hlk
      have hrd := hrx.reads
      rw [hn] at hrd
      have HX := Lib.hid hx; have HRD := Lib.hid hrd; have HNL := Lib.hid hn
      have k0 : (0 : Int) ≤ (k : Int) := by omega
      have k1 : (k : Int) < (N : Int) := by omega
      clear hx hrd hn hrx hd0 hkL
      go_wp2_with (at_builtin; go_must (refine wpList_append_any _ rfl (.tmp 12) (.tmp 17) _ rfl (w.heap.size + 1) 3 i0 _ 1 8 Try.underlying26 hi0 hz0 hz1 hz2 rfl (by decide) v acc.length (acc.map EnI) rfl HI.out.2.1 _ A n c (l.map EnI) rfl HRD.out (all_int l) ?f1 ?f2 (by omega) ?f4))
      case f1 => unfold maxLen; omega
      case f2 => omega
      case f4 =>
      intro v5 w6 hown hgr hat
      have hown2 : OwnI w6 (w.heap.size + 1) v5 (acc ++ l) := by
        unfold OwnI
        rw [List.length_append, HNL.out]
        simpa using hown
      have hvb : ∀ r, v.ownBlock = some r → w.heap.size + 1 ≤ r := fun r hr => (HI.out.2.1.lt r hr).1
      have hbl : Below w.heap.size w w6 := HI.out.2.2.1.grown hgr HI.out.2.2.1.size (fun r hr => by have := hvb r hr; omega)
      have hbk := HI.out.2.2.2.grown hgr (fun e => by have := hvb _ e.symm; omega)
      have HO := Lib.hid hown2; have HBL := Lib.hid hbl; have HBK := Lib.hid hbk
      clear hown hgr hat hown2 hbl hbk x1 x2 hcr
      go_wp2_with fail
      exact ⟨⟨_, k + 1, acc ++ l, rfl, by omega, by go_num, Lib.hid ⟨by rw [flat_succ HX.out, HI.out.1], HO.out, HBL.out, HBK.out⟩⟩, by simp [intOf]; omega⟩
    · have hkn : k = N := by omega
      have hacc : acc = L.flatten := by rw [HI.out.1, hkn, ← HN.out, List.take_length]
      have hrd := hd0.glob.reads
      rw [HM.out] at hrd
      subst hacc
      have HRD := Lib.hid hrd
      clear hkn hd0 hrd
      go_wp2_with (at_builtin; go_must (refine wpList_append_any _ rfl (.tmp 19) (.tmp 21) _ rfl (w.heap.size + 1) 3 i0 _ 1 8 Try.underlying26 hi0 hz0 hz1 hz2 rfl (by decide) v L.flatten.length (L.flatten.map EnI) rfl HI.out.2.1 _ gA M gc (Q.map EnI) rfl HRD.out (all_int Q) ?f1 ?f2 (by omega) ?f4))
      case f1 => unfold maxLen; omega
      case f2 => omega
      case f4 =>
      intro v5 w6 hown hgr hat
      have hown2 : OwnI w6 w.heap.size v5 (L.flatten ++ Q) := by
        have : w6.ownsRow (w.heap.size + 1) 3 1 v5 (L.flatten ++ Q).length ((L.flatten ++ Q).map EnI) := by
          rw [List.length_append, HM.out]
          simpa using hown
        rcases this.2 with e | ⟨g', cap, cur, e1, e2, e3⟩
        · exact ⟨this.1, .inl e⟩
        · exact ⟨this.1, .inr ⟨g', cap, cur, e1, by omega, e3⟩⟩
      have hbl : Below w.heap.size w w6 := HI.out.2.2.1.grown hgr HI.out.2.2.1.size (fun r hr => by have := (HI.out.2.1.lt r hr).1; omega)
      have HO := Lib.hid hown2; have HBL := Lib.hid hbl
      clear hown hgr hat hown2 hbl x1 x2
      go_wp2_with fail
      go_ret
      exact ⟨_, rfl, HO.out, HBL.out⟩
end
end Go.Proofs.Ytipflplilkecjaa
