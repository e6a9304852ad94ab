
/-
  A heap's call: Due.
-/
import Derived.Test.YtglgficmfpecgaaHpU
set_option linter.unusedVariables false
set_option linter.unusedSimpArgs false
namespace Go.Proofs.Ytglgficmfpecgaa
open Go.RowKit Plain

def slen : Value → Nat
  | .slice _ n _ => n
  | _ => 0
theorem OwnI.slen {w : World} {base : Nat} {v : Value} {l : List Int} (h : OwnI w base v l) : slen v = l.length := by
  obtain ⟨A, c, rfl, _⟩ := h.slice
  rfl
theorem dueN_app {d rest : List Tm} {now : Int} (hd : ∀ t ∈ d, t.2 ≤ now) (hr : ∀ x r', rest = x :: r' → ¬ x.2 ≤ now) : dueN (d ++ rest) now = d.length := by
  unfold dueN
  rw [List.takeWhile_append_of_pos (by simpa using hd)]
  match rest, hr with
  | [], _ => simp
  | x :: r', hr => simp [hr x r' rfl]
theorem digV_mono {a b : Nat} (h : a ≤ b) : digV a ≤ digV b := by
  induction b using Nat.strongRecOn generalizing a with
  | _ b ih =>
    by_cases ha : a = 0
    · subst ha
      rw [digV]
      simp
    · have e1 : digV a = digV (a / 2) + 1 := by rw [digV, dif_neg ha]
      have e2 : digV b = digV (b / 2) + 1 := by rw [digV, dif_neg (show b ≠ 0 by omega)]
      have := ih (b / 2) (by omega) (a := a / 2) (by omega)
      omega
theorem HpX.grown {a b : World} {B h m n base nn size : Nat} {v u : Value} {ts : List Tm} {f : Int → Option Nat} {e : TypeId} {xs : List Value} (H : HpX a B h m v ts f n) (ho : a.ownsRow base e size u nn xs) (hg : a.grownBy b u.ownBlock) (h1 : e ≠ 56) (h2 : e ≠ 59) : HpX b B h m v ts f n := by
  have hf := Fr.of_grown hg
  have hne : ∀ g, u.ownBlock = some g → ∃ cs, Blk a g e cs := fun g hgg => by
    rcases ho.2 with ⟨rfl, _⟩ | ⟨g', cap, cur, rfl, _, hc, _⟩
    · cases hgg
    · have : g' = g := by simpa [Value.ownBlock] using hgg
      subst this
      exact ⟨cur, hc⟩
  refine H.fr hf (fun e1 => ?_) (fun e1 => ?_) (fun j hj e1 => ?_)
  · obtain ⟨cs, hb⟩ := hne _ e1
    exact Blk.ne_ hb H.box h1 rfl
  · obtain ⟨cs, hb⟩ := hne _ e1
    exact H.mp.not_cells hb
  · obtain ⟨cs, hb⟩ := hne _ e1
    rcases H.row.2 with ⟨rfl, _⟩ | ⟨g', cap, cur, rfl, _, hc, _⟩
    · cases hj
    · have : g' = j := by simpa [Value.ownBlock] using hj
      subst this
      exact Blk.ne_ (t' := 59) (cs' := cur) hb hc h2 rfl
theorem HP.grown {a b : World} {B h n base nn size : Nat} {u : Value} {ts : List Tm} {e : TypeId} {xs : List Value} (H : HP a B h ts n) (ho : a.ownsRow base e size u nn xs) (hg : a.grownBy b u.ownBlock) (h1 : e ≠ 56) (h2 : e ≠ 59) : HP b B h ts n := by
  obtain ⟨m, v, f, H, hv⟩ := H
  exact ⟨m, v, f, H.grown ho hg h1 h2, hv⟩
theorem Fx.grown {B : Nat} {w a b : World} {row : Option Nat} (h : Fx B w a) (hg : a.grownBy b row) (hr : ∀ g, row = some g → w.heap.size ≤ g) (hB : B ≤ w.heap.size) : Fx B w b :=
  ⟨h.bel.grown hg (Nat.le_trans hB h.bel.size) (fun k hk => Nat.le_trans hB (hr k hk)), fun k cs t hb h1 h2 => (h.keep k cs t hb h1 h2).grown hg (fun e => by have := hr k e.symm; have := hb.lt; omega)⟩
theorem own_base {w : World} {base : Nat} {e : TypeId} {size n : Nat} {v : Value} {xs : List Value} (h : w.ownsRow base e size v n xs) : ∀ g, v.ownBlock = some g → base ≤ g := fun g hg => by
  rcases h.2 with ⟨rfl, _⟩ | ⟨g', cap, cur, rfl, hb, _⟩
  · cases hg
  · have : g' = g := by simpa [Value.ownBlock] using hg
    omega
theorem intT_ne : (3 : TypeId) ≠ 56 ∧ (3 : TypeId) ≠ 59 := by decide
theorem OwnI.drewN {w : World} {base : Nat} {v : Value} {l : List Int} (h : OwnI w base v l) (k : Nat) : OwnI (w.drewN k) base v l := h
section
variable {w : World} {B h n : Nat} {ts : List Tm}
set_option maxRecDepth 100000 in
set_option maxHeartbeats 4000000 in
theorem due_hp {r : List Tm} (now : Int) (H : HP w B h ts n) (hB : B ≤ w.heap.size) (hR : Rel ts r) (hs : ts.length ≤ 10000) : Calls Try.prog 22 #[.pointer (some ⟨h, 0, none⟩), .int .i64 now] w fun e w' => ∃ v, e = .returned v ∧
    OwnI w' w.heap.size v ((r.take (dueN r now)).map (·.1)) ∧ ∃ ts' n', HP w' B h ts' n' ∧ Rel ts' (r.drop (dueN r now)) ∧ Fx B w w' ∧ n ≤ n' ∧ n' ≤ n + dueN r now * (3 * digV ts.length) := by
  obtain ⟨i0, hi0, hz0, hz1, hz2⟩ := info_parts info_int
  have hln : r.length ≤ 10000 := by rw [← hR.perm.length_eq]; exact hs
  have hrl := hR.perm.length_eq
  have HRL := Lib.hid hrl
  have HH := Lib.hid H; have HR := Lib.hid hR
  clear H hR hrl
  go_enter Try.func22, Try.ntmps22
  go_wp2_with fail
  go_loopw [5] (fun s wr => ∃ (us : List Tm) (q : Nat) (d rest : List Tm), Hid (r = d ++ rest ∧ (∀ t ∈ d, t.2 ≤ now) ∧ Rel us rest ∧ n ≤ q ∧ q ≤ n + d.length * (3 * digV ts.length)) ∧ Hid (HP wr B h us q) ∧ Hid (OwnI wr w.heap.size s (d.map (·.1))) ∧ Hid (Fx B w wr)) (fun s _ => r.length - slen s)
  case atStart => exact ⟨ts, n, [], r, Lib.hid ⟨rfl, by simp, HR.out, Nat.le_refl _, by simp⟩, HH, Lib.hid (OwnI.nil _ _), Lib.hid (Fx.refl _ _)⟩
  case round =>
    obtain ⟨us, q, d, rest, hd, hh, ho, hf⟩ := hrel
    have hBw := Nat.le_trans hB hf.out.bel.size
    have hul : us.length = rest.length := hd.out.2.2.1.perm.length_eq
    have hrl2 : r.length = d.length + rest.length := by rw [hd.out.1]; simp
    by_cases h0 : rest = []
    · subst h0
      have hu0 : us = [] := List.eq_nil_of_length_eq_zero (by rw [hul]; rfl)
      subst hu0
      have hfn := Lib.hid (first_no hh.out)
      clear hul hrl2
      go_wp2_with fail
      refine hfn.out.mono ?_
      rintro e w1 ⟨rfl, rfl⟩
      go_wp2_with fail
      go_ret
      have hdn : dueN r now = d.length := by rw [hd.out.1]; exact dueN_app hd.out.2.1 (fun x r' e => by cases e)
      refine ⟨_, rfl, ?_, [], q, hh.out, ?_, hf.out, hd.out.2.2.2.1, ?_⟩
      · rw [hdn, hd.out.1]; simpa using ho.out
      · rw [hdn, hd.out.1]; simpa using hd.out.2.2.1
      · rw [hdn]; exact hd.out.2.2.2.2
    · obtain ⟨r', e0⟩ := hd.out.2.2.1.first (by rw [hul]; exact List.length_pos_iff.2 h0)
      obtain ⟨x, hgx⟩ : ∃ x, gt us 0 = x := ⟨_, rfl⟩
      rw [hgx] at e0
      subst e0
      simp at hul hrl2
      have hfn := first_yes hh.out (by omega) (by omega)
      rw [hgx] at hfn
      obtain ⟨x1, x2⟩ := x
      have HFN := Lib.hid hfn
      have hRel := hd.out.2.2.1
      by_cases hx : x2 ≤ now
      · have hstep := outV_steps us 0 q ts.length (by omega) (by have := HRL.out; omega)
        have hrel2 := hRel.out0 q
        have hout := fun (W : World) (hx : HP W B h us q) (hxb : B ≤ W.heap.size) => out_any 0 hx hxb (by omega) (by omega)
        have HOUT := Lib.hid hout; have HREL := Lib.hid hrel2; have HSTEP := Lib.hid hstep; have HUL := Lib.hid hul; have HRL2 := Lib.hid hrl2
        obtain ⟨L, hL⟩ : ∃ L, L = d.map (·.1) := ⟨_, rfl⟩
        have HL := Lib.hid hL
        have ho2 := ho.out
        rw [← hL] at ho2
        have hLd : L.length = d.length := by rw [hL]; simp
        obtain ⟨A, c, rfl, hac, hra⟩ := ho2.slice
        obtain ⟨m, hm⟩ : ∃ m, L.length = m := ⟨_, rfl⟩
        have HM := Lib.hid hm; have HLD := Lib.hid hLd
        rw [hm] at hac ⊢
        have ho3 : wr.ownsRow w.heap.size 3 1 (.slice A m c) m (L.map EnI) := by have := ho2; unfold OwnI at this; rw [hm] at this; exact this
        have HO3 := Lib.hid ho3
        clear ho hm hL ho2 ho3 hLd
        clear hfn hstep hrel2 hout hgx h0 hRel hra hul hrl2
        go_wp2_with fail
        refine HFN.out.mono ?_
        rintro e w1 ⟨rfl, k, rfl⟩
        have hsz : m + 1 ≤ 10001 := by have := HRL2.out; have := HM.out; have := HLD.out; omega
        have h1c : ∀ u ∈ [(Value.int .i64 x1)], u.oneCell' = true := by simp [Value.oneCell']
        have hb1 : m + 1 ≤ maxLen := by unfold maxLen; omega
        have hb2 : (m + 1) * 8 ≤ 140737488355328 := by omega
        have hb3 : w.heap.size ≤ ((wr.drewN k).alloc (.cells #[.int .i64 x1] 3)).heap.size := by have := hf.out.bel.size; simp; omega
        have hro : ((wr.drewN k).alloc (.cells #[.int .i64 x1] 3)).ownsRow w.heap.size 3 1 (.slice A m c) m (L.map EnI) := (((Fr.refl (fun _ => False) wr).drewN k).alloc _).own HO3.out (fun _ _ h => h)
        have HRO := Lib.hid hro; have HRD := Lib.hid (reads_one_int (wr.drewN k) x1 3); have H1C := Lib.hid h1c; have HB1 := Lib.hid hb1; have HB2 := Lib.hid hb2; have HB3 := Lib.hid hb3
        clear hro h1c hb1 hb2 hb3 hsz
        go_wp2_with (at_builtin; go_must (refine wpList_append_any _ rfl (.tmp 23) (.tmp 25) _ rfl w.heap.size 3 i0 _ 1 8 Try.underlying32 hi0 hz0 hz1 hz2 rfl (by omega) _ m (L.map EnI) rfl HRO.out (wr.heap.size + 1) (some ⟨wr.heap.size, 0, none⟩) 1 1 _ rfl HRD.out H1C.out HB1.out HB2.out HB3.out ?_))
        intro v' w1 hr1 hg1 hv1
        have h1 := ((hh.out.drewN k).below ((Below.refl wr.heap.size (wr.drewN k)).alloc (Nat.le_refl _) (.cells #[.int .i64 x1] 3)) (Nat.le_refl _)).grown HRO.out hg1 intT_ne.1 intT_ne.2
        have f1 : Fx B w w1 := ((hf.out.drewN k).trans ((Fx.refl B (wr.drewN k)).alloc hBw _)).grown hg1 (own_base HRO.out) hB
        have hout := HOUT.out w1 h1 (Nat.le_trans hB f1.bel.size)
        have hown : OwnI w1 w.heap.size v' (L ++ [x1]) := OwnI.snoc (by rw [HM.out]; exact hr1)
        have HO1 := Lib.hid hown; have HOU := Lib.hid hout; have HF1 := Lib.hid f1
        clear hr1 hg1 hv1 h1 f1 hout hown HOUT HRO HRD H1C HB1 HB2 HB3
        go_wp2_with fail
        refine HOU.out.mono ?_
        rintro e w2 ⟨rfl, h2, f2⟩
        have ho4 := f2.own HO1.out intT_ne.1 intT_ne.2
        have hL1 : L ++ [x1] = (d ++ [(x1, x2)]).map (·.1) := by rw [HL.out]; simp
        have ho5 : OwnI w2 w.heap.size v' ((d ++ [(x1, x2)]).map (·.1)) := by rw [← hL1]; exact ho4
        have hlen := ho5.slen
        have HO5 := Lib.hid ho5; have HH2 := Lib.hid h2; have HF2 := Lib.hid (HF1.out.trans f2)
        clear ho4 ho5 h2 f2 HOU
        go_wp2_with fail
        refine ⟨⟨_, _, d ++ [(x1, x2)], r', Lib.hid ⟨by rw [hd.out.1]; simp, ?_, HREL.out, ?_, ?_⟩, HH2, HO5, HF2⟩, ?_⟩
        · intro t ht
          rcases List.mem_append.1 ht with ht | ht
          · exact hd.out.2.1 t ht
          · simp at ht
            subst ht
            exact hx
        · have := hd.out.2.2.2.1
          have := HSTEP.out.1
          omega
        · have h3 := hd.out.2.2.2.2
          have h4 := HSTEP.out.2
          simp only [List.length_append, List.length_singleton, Nat.add_mul, Nat.one_mul]
          omega
        · show r.length - slen v' < r.length - slen (.slice A m c)
          rw [hlen]
          have h5 := HRL2.out
          have h6 := HM.out
          have h7 := HLD.out
          simp only [slen, List.length_map, List.length_append, List.length_singleton]
          omega
      · have hdn : dueN r now = d.length := by rw [hd.out.1]; exact dueN_app hd.out.2.1 (fun y r2 e => by injection e with e1 e2; rw [← e1]; exact hx)
        have HDN := Lib.hid hdn
        clear hfn hgx h0 hRel hul hrl2 hdn
        go_wp2_with fail
        refine HFN.out.mono ?_
        rintro e w1 ⟨rfl, k, rfl⟩
        go_wp2_with fail
        go_ret
        refine ⟨_, rfl, ?_, us, q, hh.out.drewN k, ?_, hf.out.drewN k, hd.out.2.2.2.1, ?_⟩
        · rw [HDN.out, hd.out.1]
          rw [List.take_left]
          exact ho.out.drewN k
        · rw [HDN.out, hd.out.1]; simpa using hd.out.2.2.1
        · rw [HDN.out]; exact hd.out.2.2.2.2
end
end Go.Proofs.Ytglgficmfpecgaa
