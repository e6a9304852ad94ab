
/-
  slices.Delete of one, slices.Clone, slices.Index: of rows of numbers.
-/
import Derived.Test.YtipflplilkecjaaDqM
import Derived.Deep.RegionLaw
set_option linter.unusedVariables false
set_option linter.unusedSimpArgs false
namespace Go.Proofs.Ytipflplilkecjaa
open Go.RowKit Plain

section
variable {P : Program} {w : World} {ops : Array Oper} {rest : List Oper} {o : Oper} {a : Act} {Q : Exit → Act → World → Prop}
/-- 'clear(s)' of one slot of a row that is known whole. -/
theorem wpList_clear_one (hgd : o.guard = none) (d : Operand) (dT : TypeId) (ho : o.op = .call { callee := .builtin .clear, args := #[d], argTypes := #[dT] })
    (e : TypeId) (z : Value) (hu : P.underlying dT = some (.slice e)) (hv : ∀ w, (zeroValue e).run P w = .ok z w) (hz : z.cells = #[z]) (h1 : z.oneCell' = true)
    (g off c : Nat) (hd : a.eval d = .slice (some ⟨g, off, none⟩) 1 c) (hc : (w.cell? ⟨g, off, none⟩).isSome = true) (hf : w.frozen? ⟨g, off, none⟩ = false)
    (h : wpList P ops Q rest (a.put o.dst (.tuple #[])) (w.setCell ⟨g, off, none⟩ z)) : wpList P ops Q (o :: rest) a w := by
  refine wpList_plain hgd fun K hK => ?_
  have hrun := Go.Lib.run_clear_slice (P := P) w dT e o.type z hu hv hz h1 g off 1 c (by omega) (fun j hj => by rw [show j = 0 by omega]; exact hc) (fun j hj => by rw [show j = 0 by omega]; exact hf)
  simp [World.setCells] at hrun
  unfold Oper.wp
  simp [execOp, ho, resolve, invoke, builtin, hd, hrun, Result.andThen]
  exact hK _ _ h
/-- append where there is room, of things that stand somewhere. -/
theorem step_append_room_some {K : Act → World → Prop} {E : Prop} (hg : o.guard = none) (s x : Operand) (t : TypeId) (hop : o.op = Op.call { callee := Callee.builtin Builtin.append, args := #[s, x], argTypes := #[t, t] })
    (e : TypeId) (i : TypeInfo) (size : Nat) (h1 : P.underlying t = some (.slice e)) (h2 : P.info? e = some i) (h4 : i.size = size)
    (b off n cap : Nat) (hs : a.eval s = .slice (some ⟨b, off, none⟩) n cap)
    (A : Option Addr) (m c : Nat) (news : List Value) (hx : a.eval x = .slice A m c) (hA : ∃ ad, A = some ad ∧ ∀ j u, news[j]? = some u → w.cell? (ad.add j) = some u) (hn : news.length = m * size) (h1c : ∀ u ∈ news, u.oneCell' = true)
    (hroom : n + m ≤ cap) (hspare : ∀ j, j < news.length → (w.cell? ⟨b, off + n * size + j, none⟩).isSome = true ∧ w.frozen? ⟨b, off + n * size + j, none⟩ = false)
    (hK : K (a.put o.dst (.slice (some ⟨b, off, none⟩) (n + m) cap)) (w.setCells b (off + n * size) news)) :
    if Region.wanted o (yielded ops a.tmps) = true then Oper.wp P o a w K Q else E := by
  obtain ⟨ad, rfl, hc⟩ := hA
  exact step_append_room hg s x t hop e i size h1 h2 h4 b off n cap hs ad m c news hx hn hc h1c hroom hspare hK
end

set_option maxRecDepth 100000 in
set_option maxHeartbeats 2000000 in
theorem delete_any (s o p c k : Nat) (zs : List Int) (w : World) (hb : Blk w s 3 (zs.map EnI).toArray) (hoc : o + c ≤ zs.length) (hn : p + 1 ≤ c) (hk : k < p + 1) (hc : c ≤ 1000) :
    Calls Try.prog 54 #[.slice (some ⟨s, o, none⟩) (p + 1) c, .int .i64 (k : Int), .int .i64 ((k : Int) + 1)] w fun e w' => e = .returned (.slice (some ⟨s, o, none⟩) p c) ∧ Fr (fun i => i = s) w w' ∧
      Blk w' s 3 ((((shiftL zs (o + k) (p - k)).set (o + p) 0)).map EnI).toArray := by
  obtain ⟨i0, hi0, hz0, hz1, hz2⟩ := info_parts info_int
  have hk0 : (0 : Int) ≤ (k : Int) := by omega
  have hkn : (k : Int) < (p : Int) + 1 := by omega
  have hkc : (k : Int) + 1 ≤ (c : Int) := by omega
  have hne : ((k : Int) == (k : Int) + 1) = false := by simp; omega
  have hnc : ((p : Int) + 1 ≤ (c : Int)) := by omega
  have hkc2 : k ≤ c := by omega
  have hkk : (k : Int) ≤ (k : Int) + 1 := by omega
  have hk1 : (0 : Int) ≤ (k : Int) + 1 := by omega
  have hk2 : (k : Int) + 1 ≤ (p : Int) + 1 := by omega
  have hkn2 : k ≤ p := by omega
  obtain ⟨A, hA⟩ : ∃ A, A = (if c = k + 1 then some (⟨s, o, none⟩ : Addr) else some ⟨s, o + (k + 1), none⟩) := ⟨_, rfl⟩
  obtain ⟨m, hm⟩ : ∃ m, m = p - k := ⟨_, rfl⟩
  have hrd : ∃ ad, A = some ad ∧ ∀ j u, (((zs.drop (o + (k + 1))).take m).map EnI)[j]? = some u → w.cell? (ad.add j) = some u := by
    by_cases hck : c = k + 1
    · refine ⟨_, by rw [hA, if_pos hck], fun j u hj => ?_⟩
      have := (List.getElem?_eq_some_iff.1 hj).1
      simp at this
      omega
    · refine ⟨_, by rw [hA, if_neg hck], fun j u hj => ?_⟩
      rw [Addr.add_lit, hb.cell]
      have hj2 : j < m := by
        have := (List.getElem?_eq_some_iff.1 hj).1
        simp at this
        omega
      rw [List.getElem?_map, List.getElem?_take_of_lt hj2, List.getElem?_drop] at hj
      simpa using hj
  have hsp : ∀ j, j < (((zs.drop (o + (k + 1))).take m).map EnI).length → (w.cell? ⟨s, o + k * 1 + j, none⟩).isSome = true ∧ w.frozen? ⟨s, o + k * 1 + j, none⟩ = false := fun j hj => by
    simp at hj
    refine ⟨?_, hb.frozen _⟩
    rw [hb.cell]
    simp
    omega
  have h1c : ∀ u ∈ (((zs.drop (o + (k + 1))).take m).map EnI), u.oneCell' = true := fun u hu => by
    obtain ⟨x, _, rfl⟩ := List.mem_map.1 hu
    rfl
  have hlen : (((zs.drop (o + (k + 1))).take m).map EnI).length = m * 1 := by simp; omega
  have hnew : ∀ d, Blk ((w.drewN d).setCells s (o + k * 1) (((zs.drop (o + (k + 1))).take m).map EnI)) s 3 ((shiftL zs (o + k) (p - k)).map EnI).toArray := fun d => by
    have := setCells_blk s _ (((zs.drop (o + (k + 1))).take m).map EnI) _ (o + k * 1) (w.drewN d) hb (by rw [hlen]; simp; omega)
    rw [hlen] at this
    unfold shiftL
    rw [show p - k = m by omega]
    simpa [List.map_take, List.map_drop, Nat.add_assoc] using this
  have hfr : ∀ d, Fr (fun i => i = s) w ((w.drewN d).setCells s (o + k * 1) (((zs.drop (o + (k + 1))).take m).map EnI)) := fun d => ((Fr.refl (fun i => i = s) w).drewN d).trans (setCells_fr s _ _ _) (fun _ _ h => h)
  have HR := Lib.hid hrd; have HSP := Lib.hid hsp; have H1C := Lib.hid h1c; have HLEN := Lib.hid hlen; have HNEW := Lib.hid hnew; have HFR := Lib.hid hfr
  have HZ := fun w => (by kernel_rfl : (zeroValue 3).run Try.prog w = .ok (.int .i64 0) w)
  clear hrd hsp h1c hlen hb hnew hfr
  go_enter Try.func54, Try.ntmps54
  go_wp2_with fail
  have hkm : k + m = p := by omega
  have HMM := Lib.hid hm
  have HAA := Lib.hid hA
  have hAA := hA.symm
  clear hA hm
  have hmm := HMM.out.symm
  go_region_law (go_must (refine step_append_room_some (by rfl) (.tmp 22) (.tmp 25) _ (by rfl) 3 i0 1 Try.underlying26 hi0 hz1 s o k c (by rfl) A m (c - (k + 1)) (((zs.drop (o + (k + 1))).take m).map EnI) (by first | rfl | (rw [HAA.out, HMM.out]; rfl)) HR.out HLEN.out H1C.out (by omega) HSP.out ?_))
  generalize hW2 : World.setCells _ s _ _ = W2
  have hb2 := HNEW.out 1
  have hf2 := HFR.out 1
  rw [show (w.drewN 1).setCells s (o + k * 1) (((zs.drop (o + (k + 1))).take m).map EnI) = W2 by rw [← hW2, List.map_take, List.map_drop, Nat.mul_one]; rfl] at hb2 hf2
  have c2 : (W2.cell? ⟨s, o + p, none⟩).isSome = true := by rw [hb2.cell]; simp; rw [shiftL_length _ _ _ (by omega)]; omega
  have z2 : W2.frozen? ⟨s, o + p, none⟩ = false := hb2.frozen _
  have hb3 := hb2.set_ (o + p) (.int .i64 0)
  have hf3 := hf2.setCell (p := ⟨s, o + p, none⟩) (.inl rfl) (.int .i64 0)
  have HB3 := Lib.hid hb3; have HF3 := Lib.hid hf3
  clear hb2 hf2 hb3 hf3 hW2
  have hpc : ¬ c = p := by omega
  go_wp2_with (with_reducible refine wpList_clear_one rfl (.tmp 31) _ rfl 3 (.int .i64 0) Try.underlying26 HZ rfl rfl s (o + p) (c - p) rfl c2 z2 ?_)
  go_ret
  refine ⟨rfl, HF3.out, ?_⟩
  have := HB3.out
  simpa [List.map_set] using this
end Go.Proofs.Ytipflplilkecjaa
