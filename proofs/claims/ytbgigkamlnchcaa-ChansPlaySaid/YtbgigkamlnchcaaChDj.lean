
/-
  The document's Recv in one contract.
-/
import Derived.Test.YtbgigkamlnchcaaChDf
import Derived.Test.YtbgigkamlnchcaaChDg
import Derived.Test.YtbgigkamlnchcaaChDh
import Derived.Test.YtbgigkamlnchcaaChDi
set_option linter.unusedVariables false
set_option linter.unusedSimpArgs false
namespace Go.Proofs.Ytbgigkamlnchcaa
open Go.RowKit Plain

theorem set_same {L : List (List Int)} {m : Nat} (h : gl L m = []) : L.set m [] = L := by
  have := set_gl L m
  rw [h] at this
  exact this
set_option maxHeartbeats 1000000 in
theorem refRecv_any (w : World) (E : Nat → Prop) (z : ChZ) (n : Nat) (s : Ck) (h : DocC w E z n s) {K : Nat} (O : CkOk K n s) (hK : K ≤ 50000) (hn : n ≤ 1000) (m : Nat) (hm : m < n) (t : Int) :
    Calls Try.prog 31 #[.agg (mkD z n), .int .i64 (m : Int), .int .i64 t] w fun e w' => ∃ z' : ChZ, e = .returned (.tuple #[.agg (mkD z' n), .int .i64 (recvV s m t).2.1, .int .i64 (recvV s m t).2.2.1, .bool (recvV s m t).2.2.2]) ∧ DocC w' (fun k => w.heap.size ≤ k) z' n (recvV s m t).1 ∧ Below w.heap.size w w' := by
  have hev := O.ev m
  have hml : m < s.bf.length := by rw [O.l1]; exact hm
  match hs : gl s.sq m with
  | [] =>
    have ha : admitV s m = (s, -1) := by unfold admitV; rw [hs]
    match hb : gl s.bf m with
    | [] =>
      have hr : recvV s m t = ({ s with rq := s.rq.set m (gl s.rq m ++ [t]) }, 0, -1, false) := by
        unfold recvV takeV
        rw [ha]
        simp only [hb]
      rw [hr]
      exact refRecv_wait w E z n s h O hK hn m hm t hb hs
    | v :: r =>
      have hr : recvV s m t = ({ s with bf := s.bf.set m r }, v, -1, true) := by
        unfold recvV takeV
        rw [ha]
        simp only [hb]
      rw [hr]
      exact refRecv_lies w E z n s h O hK hn m hm t v r hb hs
  | [x] => rw [hs] at hev; simp at hev
  | x :: y :: q =>
    have ha : admitV s m = ({ s with bf := s.bf.set m (gl s.bf m ++ [y]), sq := s.sq.set m q }, x) := by unfold admitV; rw [hs]
    have hg : gl (s.bf.set m (gl s.bf m ++ [y])) m = gl s.bf m ++ [y] := gl_set hml _
    match hb : gl s.bf m with
    | [] =>
      have hr : recvV s m t = ({ s with sq := s.sq.set m q }, y, x, true) := by
        unfold recvV takeV
        rw [ha]
        simp only [hg]
        rw [hb]
        simp only [List.nil_append, List.set_set]
        rw [set_same hb]
      rw [hr]
      exact refRecv_take w E z n s h O hK hn m hm t hb x y q hs
    | v :: r =>
      have hr : recvV s m t = ({ s with bf := (s.bf.set m r).set m (r ++ [y]), sq := s.sq.set m q }, v, x, true) := by
        unfold recvV takeV
        rw [ha]
        simp only [hg]
        rw [hb]
        simp only [List.cons_append, List.set_set]
      rw [hr]
      exact refRecv_both w E z n s h O hK hn m hm t v r hb x y q hs
end Go.Proofs.Ytbgigkamlnchcaa
