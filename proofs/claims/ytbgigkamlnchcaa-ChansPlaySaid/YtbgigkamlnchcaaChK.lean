
/-
  States of one channel through the statements of layer 10: those that meet, the row of numbers.
-/
import Derived.Test.YtbgigkamlnchcaaChS
set_option linter.unusedVariables false
set_option linter.unusedSimpArgs false
namespace Go.Proofs.Ytbgigkamlnchcaa
open Go.RowKit Go.Shelf Plain

/-- Where a law's state stands: w is the world at its beginning. -/
structure ChSt (w wr : World) (h : ChH) (s : Ck) : Prop where
  m : ChM wr w.heap.size h s
  b : Below w.heap.size w wr
theorem ChSt.of {w wr w' : World} {h : ChH} {s s' : Ck} (H : ChSt w wr h s) (hT : ChT wr w' w.heap.size h s') : ChSt w w' h s' := ⟨hT.1, H.b.trans (hT.2.below H.b.size (fun k hk => (H.m.wlt hk).1))⟩
theorem ChSt.later {w wr w' : World} {h : ChH} {s : Ck} (H : ChSt w wr h s) (hb : Below wr.heap.size wr w') : ChSt w w' h s := ⟨H.m.below hb (Nat.le_refl _), H.b.trans (hb.mono H.b.size)⟩
namespace Plain
/-- One channel. -/
abbrev C1 (a b c : List Int) : Ck := ⟨[a], [b], [c]⟩
theorem c1_ok {K : Nat} {a b c : List Int} (h1 : b.length % 2 = 0) (h2 : a.length + b.length + c.length ≤ K) : CkOk K 1 (C1 a b c) := by
  refine ⟨rfl, rfl, rfl, fun m => ?_, by simpa [tot] using h2⟩
  cases m with
  | zero => simpa [gl] using h1
  | succ m => simp [gl]
/-- k threads from a on wait to send, each its number and a hundred. -/
def flatV : Nat → Nat → List Int
  | _, 0 => []
  | a, k + 1 => (a : Int) :: ((100 : Int) + (a : Int)) :: flatV (a + 1) k
theorem flatV_snoc : ∀ (k a : Nat), flatV a k ++ [((a + k : Nat) : Int), (100 : Int) + ((a + k : Nat) : Int)] = flatV a (k + 1)
  | 0, a => rfl
  | k + 1, a => by
    have := flatV_snoc k (a + 1)
    rw [show a + 1 + k = a + (k + 1) by omega] at this
    show (a : Int) :: ((100 : Int) + (a : Int)) :: (flatV (a + 1) k ++ _) = (a : Int) :: ((100 : Int) + (a : Int)) :: flatV (a + 1) (k + 1)
    rw [this]
theorem flatV_len : ∀ (k a : Nat), (flatV a k).length = 2 * k
  | 0, _ => rfl
  | k + 1, a => by simp [flatV, flatV_len k (a + 1)]; omega
def seqV (a n : Nat) : List Int := (List.range n).map fun i => (50 : Int) + ((a + i : Nat) : Int)
theorem seqV_snoc (a n : Nat) : seqV a n ++ [(50 : Int) + ((a + n : Nat) : Int)] = seqV a (n + 1) := by simp [seqV, List.range_succ]
theorem seqV_cons (a n : Nat) : seqV a (n + 1) = ((50 : Int) + (a : Int)) :: seqV (a + 1) n := by
  simp only [seqV, List.range_succ_eq_map, List.map_cons, List.map_map]
  congr 1
  refine List.map_congr_left fun i _ => ?_
  simp only [Function.comp]
  congr 2
  omega
theorem seqV_len (a n : Nat) : (seqV a n).length = n := by simp [seqV]
theorem seqV_not {a n : Nat} {x : Int} (h : x < (50 : Int) + (a : Int)) : x ∉ seqV a n := by
  intro hm
  simp [seqV] at hm
  obtain ⟨i, _, h2⟩ := hm
  omega
theorem wo_cons {x : Int} {r : List Int} (h : x ∉ r) : wo x (x :: r) = r := by
  have := wo_not h
  unfold wo at this ⊢
  simp [this]
/-- Behind i sendings, where mm waited to receive. -/
def sM (mm i : Nat) : Ck := C1 [] (flatV mm (i - mm)) (seqV i (mm - i))
/-- Behind i receivings, where nn waited to send. -/
def rM (nn i : Nat) : Ck := C1 [] (flatV i (nn - i)) (seqV nn (i - nn))
theorem sM_ok {mm i : Nat} (h1 : mm ≤ 12) (h2 : i ≤ 12) : CkOk 100 1 (sM mm i) := c1_ok (by rw [flatV_len]; omega) (by rw [flatV_len, seqV_len]; simp; omega)
theorem rM_ok {nn i : Nat} (h1 : nn ≤ 12) (h2 : i ≤ 12) : CkOk 100 1 (rM nn i) := c1_ok (by rw [flatV_len]; omega) (by rw [flatV_len, seqV_len]; simp; omega)
theorem send_sM (mm i : Nat) : sendV (sM mm i) 0 0 (i : Int) ((100 : Int) + (i : Int)) = (sM mm (i + 1), if i < mm then (50 : Int) + (i : Int) else -1, decide (i < mm)) := by
  by_cases h : i < mm
  · have e1 : seqV i (mm - i) = ((50 : Int) + (i : Int)) :: seqV (i + 1) (mm - (i + 1)) := by rw [show mm - i = (mm - (i + 1)) + 1 by omega, seqV_cons]
    have e2 : sM mm i = C1 [] [] (((50 : Int) + (i : Int)) :: seqV (i + 1) (mm - (i + 1))) := by
      unfold sM
      rw [e1, show i - mm = 0 by omega]
      rfl
    have e3 : sM mm (i + 1) = C1 [] [] (seqV (i + 1) (mm - (i + 1))) := by
      unfold sM
      rw [show i + 1 - mm = 0 by omega]
      rfl
    rw [e2, e3, if_pos h, decide_eq_true h]
    have hw : wo ((50 : Int) + (i : Int)) (((50 : Int) + (i : Int)) :: seqV (i + 1) (mm - (i + 1))) = seqV (i + 1) (mm - (i + 1)) := wo_cons (seqV_not (by omega))
    simp [sendV, gl, cancelV, hw]
  · have e2 : sM mm i = C1 [] (flatV mm (i - mm)) [] := by
      unfold sM
      rw [show mm - i = 0 by omega]
      rfl
    have e3 : sM mm (i + 1) = C1 [] (flatV mm (i - mm) ++ [(i : Int), (100 : Int) + (i : Int)]) [] := by
      unfold sM
      have := flatV_snoc (i - mm) mm
      rw [show mm + (i - mm) = i by omega] at this
      rw [this, show i + 1 - mm = i - mm + 1 by omega, show mm - (i + 1) = 0 by omega]
      rfl
    rw [e2, e3, if_neg h, decide_eq_false h]
    simp [sendV, gl]
theorem recv_rM (nn i : Nat) : recvV (rM nn i) 0 ((50 : Int) + (i : Int)) = (rM nn (i + 1), if i < nn then (100 : Int) + (i : Int) else 0, if i < nn then (i : Int) else -1, decide (i < nn)) := by
  by_cases h : i < nn
  · have e2 : rM nn i = C1 [] ((i : Int) :: ((100 : Int) + (i : Int)) :: flatV (i + 1) (nn - (i + 1))) [] := by
      unfold rM
      rw [show nn - i = (nn - (i + 1)) + 1 by omega, show i - nn = 0 by omega]
      rfl
    have e3 : rM nn (i + 1) = C1 [] (flatV (i + 1) (nn - (i + 1))) [] := by
      unfold rM
      rw [show i + 1 - nn = 0 by omega]
      rfl
    rw [e2, e3, if_pos h, if_pos h, decide_eq_true h]
    simp [recvV, admitV, takeV, gl]
  · have e2 : rM nn i = C1 [] [] (seqV nn (i - nn)) := by
      unfold rM
      rw [show nn - i = 0 by omega]
      rfl
    have e3 : rM nn (i + 1) = C1 [] [] (seqV nn (i - nn) ++ [(50 : Int) + (i : Int)]) := by
      unfold rM
      have := seqV_snoc nn (i - nn)
      rw [show nn + (i - nn) = i by omega] at this
      rw [this, show i + 1 - nn = i - nn + 1 by omega, show nn - (i + 1) = 0 by omega]
      rfl
    rw [e2, e3, if_neg h, if_neg h, decide_eq_false h]
    simp [recvV, admitV, takeV, gl]
theorem sM_rM (n : Nat) : sM 0 n = rM n 0 := by simp [sM, rM, seqV]
theorem rM_sM (m : Nat) : rM 0 m = sM m 0 := by simp [sM, rM, flatV]
theorem sM_end (m n : Nat) : sM m n = C1 [] (flatV m (n - m)) (seqV n (m - n)) := rfl
theorem rM_end (m n : Nat) : rM n m = C1 [] (flatV m (n - m)) (seqV n (m - n)) := rfl
theorem new1 : newV 1 = sM 0 0 := rfl
/-- Pairs side by side. -/
def flat2 : List (Int × Int) → List Int
  | [] => []
  | p :: ps => p.1 :: p.2 :: flat2 ps
theorem flat2_snoc : ∀ (ps : List (Int × Int)) (t v : Int), flat2 ps ++ [t, v] = flat2 (ps ++ [(t, v)])
  | [], _, _ => rfl
  | p :: ps, t, v => by simp [flat2, flat2_snoc ps t v]
theorem flat2_len : ∀ ps : List (Int × Int), (flat2 ps).length = 2 * ps.length
  | [] => rfl
  | p :: ps => by simp [flat2, flat2_len ps]; omega
theorem flat2_nil {ps : List (Int × Int)} : flat2 ps = [] ↔ ps = [] := by cases ps <;> simp [flat2]
def runV (a n : Nat) : List Int := (List.range n).map fun i => ((a + i : Nat) : Int)
theorem runV_snoc (a n : Nat) : runV a n ++ [((a + n : Nat) : Int)] = runV a (n + 1) := by simp [runV, List.range_succ]
theorem runV_cons (a n : Nat) : runV a (n + 1) = (a : Int) :: runV (a + 1) n := by
  simp only [runV, List.range_succ_eq_map, List.map_cons, List.map_map]
  congr 1
  refine List.map_congr_left fun i _ => ?_
  simp only [Function.comp]
  congr 1
  omega
theorem runV_len (a n : Nat) : (runV a n).length = n := by simp [runV]
/-- Where ChansRow stands. -/
structure RowI (p i sent got asked : Nat) (s : Ck) : Prop where
  ex : ∃ (bf : List Int) (ps : List (Int × Int)) (rq : List Int), s = C1 bf (flat2 ps) rq ∧ bf ++ ps.map (·.2) = runV got (sent - got) ∧ (ps ≠ [] → p ≤ bf.length) ∧ (rq ≠ [] → bf = [] ∧ ps = []) ∧ rq.Nodup ∧ (∀ x ∈ rq, 0 ≤ x ∧ x < (i : Int)) ∧ rq.length = asked - got
  g1 : got ≤ sent
  g2 : got ≤ asked
  g3 : got = sent ∨ got = asked
  si : sent ≤ i
  ai : asked ≤ i
theorem RowI.start (p : Nat) : RowI p 0 0 0 0 (newV 1) := ⟨⟨[], [], [], rfl, rfl, by simp, by simp, by simp, by simp, rfl⟩, by omega, by omega, .inl rfl, by omega, by omega⟩
theorem RowI.ok {p i sent got asked : Nat} {s : Ck} (h : RowI p i sent got asked s) (hi : i ≤ 60) : CkOk 300 1 s := by
  obtain ⟨bf, ps, rq, rfl, h1, h2, h3, h4, h5, h6⟩ := h.ex
  have e := congrArg List.length h1
  rw [List.length_append, List.length_map, runV_len] at e
  have := h.si; have := h.ai
  exact c1_ok (by rw [flat2_len]; omega) (by rw [flat2_len]; omega)
theorem RowI.send {p i sent got asked : Nat} {s : Ck} (h : RowI p i sent got asked s) : ∃ b : Bool, ((sendV s 0 (p : Int) (i : Int) (sent : Int)).2.2 && decide ((sendV s 0 (p : Int) (i : Int) (sent : Int)).2.1 ≥ 0)) = b ∧ (b = true → got = sent) ∧
    RowI p (i + 1) (sent + 1) (if b then got + 1 else got) asked (sendV s 0 (p : Int) (i : Int) (sent : Int)).1 := by
  obtain ⟨bf, ps, rq, rfl, h1, h2, h3, h4, h5, h6⟩ := h.ex
  have g1 := h.g1; have g2 := h.g2; have g3 := h.g3; have si := h.si; have ai := h.ai
  cases rq with
  | cons x r =>
    obtain ⟨rfl, rfl⟩ := h3 (by simp)
    have hsg : got = sent := by
      have := congrArg List.length h1
      simp [runV_len] at this
      omega
    have hnx : x ∉ r := (List.nodup_cons.1 h4).1
    have hx := h5 x (by simp)
    have e : sendV (C1 [] (flat2 []) (x :: r)) 0 (p : Int) (i : Int) (sent : Int) = (C1 [] [] r, x, true) := by
      simp [sendV, gl, cancelV, wo_cons hnx, flat2]
    rw [e]
    simp at h6
    refine ⟨true, by simp [hx.1], fun _ => hsg, ⟨[], [], r, rfl, ?_, by simp, by simp, (List.nodup_cons.1 h4).2, fun y hy => ?_, by simp; omega⟩, by simp; omega, by simp; omega, .inl (by simp; omega), by omega, by omega⟩
    · simp [hsg, runV]
    · have := h5 y (by simp [hy])
      omega
  | nil =>
    simp at h6
    have hga : got = asked := by omega
    by_cases hb : (bf.length : Int) < (p : Int)
    · have hps : ps = [] := by
        cases ps with
        | nil => rfl
        | cons q qs => have := h2 (by simp); omega
      subst hps
      have e : sendV (C1 bf (flat2 []) []) 0 (p : Int) (i : Int) (sent : Int) = (C1 (bf ++ [(sent : Int)]) [] [], -1, true) := by
        simp only [sendV, gl]
        simp [hb, flat2]
      rw [e]
      refine ⟨false, rfl, by simp, ⟨bf ++ [(sent : Int)], [], [], rfl, ?_, by simp, by simp, by simp, by simp, by simp; omega⟩, by simp; omega, by simp; omega, .inr (by simp; omega), by omega, by omega⟩
      simp at h1
      simp only [List.map_nil, List.append_nil, Bool.false_eq_true, if_false]
      rw [h1]
      have := runV_snoc got (sent - got)
      rw [show got + (sent - got) = sent by omega] at this
      rw [this, show sent + 1 - got = sent - got + 1 by omega]
    · have e : sendV (C1 bf (flat2 ps) []) 0 (p : Int) (i : Int) (sent : Int) = (C1 bf (flat2 (ps ++ [((i : Int), (sent : Int))])) [], -1, false) := by
        simp only [sendV, gl]
        simp [hb, flat2_snoc]
      rw [e]
      refine ⟨false, rfl, by simp, ⟨bf, ps ++ [((i : Int), (sent : Int))], [], rfl, ?_, fun _ => by omega, by simp, by simp, by simp, by simp; omega⟩, by simp; omega, by simp; omega, .inr (by simp; omega), by omega, by omega⟩
      simp only [List.map_append, List.map_cons, List.map_nil, Bool.false_eq_true, if_false]
      rw [← List.append_assoc, h1]
      have := runV_snoc got (sent - got)
      rw [show got + (sent - got) = sent by omega] at this
      rw [this, show sent + 1 - got = sent - got + 1 by omega]
theorem RowI.recv {p i sent got asked : Nat} {s : Ck} (h : RowI p i sent got asked s) : ∃ b : Bool, (recvV s 0 (i : Int)).2.2.2 = b ∧ (b = true → (recvV s 0 (i : Int)).2.1 = (got : Int)) ∧
    RowI p (i + 1) sent (if b then got + 1 else got) (asked + 1) (recvV s 0 (i : Int)).1 := by
  obtain ⟨bf, ps, rq, rfl, h1, h2, h3, h4, h5, h6⟩ := h.ex
  have g1 := h.g1; have g2 := h.g2; have g3 := h.g3; have si := h.si; have ai := h.ai
  have hlen := congrArg List.length h1
  rw [List.length_append, List.length_map, runV_len] at hlen
  by_cases hz : sent = got
  · have hbf : bf = [] := List.eq_nil_of_length_eq_zero (by omega)
    have hps : ps = [] := List.eq_nil_of_length_eq_zero (by omega)
    subst hbf hps
    have e : recvV (C1 [] (flat2 []) rq) 0 (i : Int) = (C1 [] [] (rq ++ [(i : Int)]), 0, -1, false) := by
      simp [recvV, admitV, takeV, gl, flat2]
    rw [e]
    refine ⟨false, rfl, by simp, ⟨[], [], rq ++ [(i : Int)], rfl, by simpa using h1, by simp, by simp, ?_, fun y hy => ?_, by simp; omega⟩, by simp; omega, by simp; omega, .inl (by simp; omega), by omega, by omega⟩
    · rw [List.nodup_append]
      refine ⟨h4, by simp, fun a ha b hb => ?_⟩
      simp at hb
      have := h5 a ha
      omega
    · rw [List.mem_append] at hy
      rcases hy with hy | hy
      · have := h5 y hy; omega
      · simp at hy; omega
  · have hrq : rq = [] := by
      cases rq with
      | nil => rfl
      | cons x r =>
        obtain ⟨rfl, rfl⟩ := h3 (by simp)
        simp at hlen
        omega
    subst hrq
    simp at h6
    have hrun : runV got (sent - got) = (got : Int) :: runV (got + 1) (sent - (got + 1)) := by rw [show sent - got = (sent - (got + 1)) + 1 by omega, runV_cons]
    rw [hrun] at h1
    cases ps with
    | cons q qs =>
      have hp := h2 (by simp)
      -- the first one that waits to send waits no more
      obtain ⟨v, r, hv⟩ : ∃ v r, bf ++ [q.2] = v :: r := by cases bf <;> exact ⟨_, _, rfl⟩
      have e : recvV (C1 bf (flat2 (q :: qs)) []) 0 (i : Int) = (C1 r (flat2 qs) [], v, q.1, true) := by
        simp [recvV, admitV, takeV, gl, flat2, hv]
      rw [e]
      have h1' : v :: r ++ qs.map (·.2) = (got : Int) :: runV (got + 1) (sent - (got + 1)) := by
        rw [← hv, ← h1]
        simp
      simp only [List.cons_append, List.cons.injEq] at h1'
      have hrl : r.length = bf.length := by
        have := congrArg List.length hv
        simp at this
        omega
      exact ⟨true, rfl, fun _ => h1'.1, ⟨r, qs, [], rfl, h1'.2, fun _ => by omega, by simp, by simp, by simp, by simp; omega⟩, by simp; omega, by simp; omega, .inr (by simp; omega), by omega, by omega⟩
    | nil =>
      cases bf with
      | nil => simp at h1
      | cons v r =>
        have e : recvV (C1 (v :: r) (flat2 []) []) 0 (i : Int) = (C1 r [] [], v, -1, true) := by
          simp [recvV, admitV, takeV, gl, flat2]
        rw [e]
        simp at h1
        exact ⟨true, rfl, fun _ => h1.1, ⟨r, [], [], rfl, by simpa using h1.2, by simp, by simp, by simp, by simp, by simp; omega⟩, by simp; omega, by simp; omega, .inr (by simp; omega), by omega, by omega⟩
theorem RowI.min {p i sent got asked : Nat} {s : Ck} (h : RowI p i sent got asked s) : got = min sent asked := by
  have := h.g1; have := h.g2; have := h.g3
  omega
end Plain
end Go.Proofs.Ytbgigkamlnchcaa
