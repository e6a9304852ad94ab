
/-
  Op of the program.
-/
import Derived.Test.YtcnfmngcfnpkkaaDoorNmA
set_option linter.unusedVariables false
set_option linter.unusedSimpArgs false
namespace Go.Proofs.YtcnfmngcfnpkkaaDoor
open Go.RowKit Plain

namespace Plain
/-- The instruction of a name. -/
def opB (s : List UInt8) : Int × Bool := match nmB.findIdx? (fun x => decide (x = s)) with
  | some k => ((k : Int), true)
  | none => (0, false)
theorem opB_hit {s : List UInt8} {k : Nat} (hk : nmB[k]? = some s) (hne : ∀ j : Nat, j < k → nmB[j]? ≠ some s) : opB s = ((k : Int), true) := by
  have hkl := (List.getElem?_eq_some_iff.1 hk).1
  have he := (List.getElem?_eq_some_iff.1 hk).2
  have hf : nmB.findIdx? (fun x => decide (x = s)) = some k := by
    rw [List.findIdx?_eq_some_iff_getElem]
    refine ⟨hkl, by simpa using he, fun j hj => ?_⟩
    have := hne j hj
    rw [List.getElem?_eq_getElem (by omega)] at this
    simpa using this
  unfold opB
  rw [hf]
theorem opB_miss {s : List UInt8} (hne : ∀ j : Nat, j < 27 → nmB[j]? ≠ some s) : opB s = (0, false) := by
  have hf : nmB.findIdx? (fun x => decide (x = s)) = none := by
    rw [List.findIdx?_eq_none_iff]
    intro x hx
    obtain ⟨j, hj, rfl⟩ := List.mem_iff_getElem.1 hx
    have := hne j (by have := nmB_len; omega)
    rw [List.getElem?_eq_getElem hj] at this
    simpa using this
  unfold opB
  rw [hf]
end Plain
theorem run_index_nm (cs : List Value) (k : Nat) (v : Value) (w : World) (hk : k < 27) (hv : cs.toArray[k]? = some v) (hi : (Tryd.prog.info? 9).map (·.size) = some 1) :
    (Instr.index 31 (.agg cs.toArray) (.int .i64 (k : Int))).run Tryd.prog w = .ok v w := by
  have h0 : 0 ≤ (k : Int) ∧ (k : Int) < 27 := by omega
  have hu : Tryd.prog.underlying 31 = some (.array 27 9) := Tryd.underlying31
  have hu2 : Tryd.prog.underlying 9 = some .string := Tryd.underlying9
  have hv2 : cs[k]? = some v := by simpa using hv
  cases hq : Tryd.prog.info? 9 with
  | none => simp [hq] at hi
  | some i =>
    have hs : i.size = 1 := by simpa [hq] using hi
    simp [Instr.index, run_underlying hu, asIntOf, h0, sizeOf, typeInfo, hq, hs, go_sem, part, isAgg, run_underlying hu2, hk, hv2]
theorem str_eq {a : List UInt8} {s : ByteArray} : ((⟨a.toArray⟩ : ByteArray) = s) ↔ a = s.data.toList := by
  constructor
  · rintro rfl
    simp
  · intro h
    subst h
    cases s
    simp
set_option maxHeartbeats 4000000 in
theorem op_any (s : ByteArray) (w : World) (h : NmV w) : Calls Tryd.prog 5 #[.string s] w fun e w' => e = .returned (.tuple #[.int .i64 (opB s.data.toList).1, .bool (opB s.data.toList).2]) ∧ w = w' := by
  obtain ⟨cs, hcs⟩ : ∃ cs : List Value, cs = nmB.map fun s => Value.string ⟨s.toArray⟩ := ⟨_, rfl⟩
  have hlen : cs.length = 27 := by rw [hcs]; rfl
  have hat : ∀ (k : Nat) (t : List UInt8), nmB[k]? = some t → cs.toArray[k]? = some (.string ⟨t.toArray⟩) := fun k t hk => by rw [hcs]; simp [hk]
  have hra : w.rangeAt 0 0 cs := fun k v hv => by
    rw [hcs, List.getElem?_map, Option.map_eq_some_iff] at hv
    obtain ⟨t, h1, rfl⟩ := hv
    rw [Nat.zero_add]
    exact h.at_ k t h1
  have HSZ : Hid ((Tryd.prog.info? 31).map (·.size) = some cs.length) := Lib.hid (by rw [hlen]; kernel_rfl)
  have HAT := Lib.hid hat; have HRA := Lib.hid hra; have HLEN := Lib.hid hlen
  clear hat hra hlen hcs
  go_enter Tryd.func5, Tryd.ntmps5
  go_wp2_with (with_reducible refine wpList_load_mid rfl 31 (.global 0) rfl 0 0 rfl cs (.array 27 9) HRA.out Tryd.underlying31 rfl HSZ.out ?_)
  go_loopw [4, 5, 7] (fun s4 s5 s7 wr => ∃ k : Nat, k ≤ 27 ∧ s7 = .int .i64 (k : Int) ∧ Hid (∀ j : Nat, j < k → nmB[j]? ≠ some s.data.toList) ∧ wr = w) (fun _ _ s7 _ => 27 - (intOf s7).toNat)
  case atStart => exact ⟨0, by omega, rfl, Lib.hid (fun j hj => by omega), rfl⟩
  case round =>
    obtain ⟨k, hk, rfl, HNE, rfl⟩ := hrel
    by_cases hlt : k < 27
    · have h1 : (k : Int) < 27 := by omega
      have hkl : k < nmB.length := by rw [nmB_len]; exact hlt
      obtain ⟨t, ht⟩ : ∃ t, nmB[k]? = some t := ⟨_, List.getElem?_eq_getElem hkl⟩
      have hx := HAT.out k t ht
      have hix := fun W => run_index_nm cs k _ W hlt hx (by kernel_rfl)
      clear hx
      have HT := Lib.hid ht
      clear ht hkl
      by_cases he : t = s.data.toList
      · have hee : (t == s.toList) = true := by rw [ByteArray.toList_eq]; simp [he]
        have hop := opB_hit (s := s.data.toList) (k := k) (by rw [← he]; exact HT.out) HNE.out
        have HOP := Lib.hid hop
        clear he hop
        go_wp2_with fail
        exact bodyPost_ret (v := .tuple #[.int .i64 (k : Int), .bool true]) (by simp [results, Tryd.results5, go_sem]) rfl ⟨by rw [HOP.out], rfl⟩
      · have hee : (t == s.toList) = false := by rw [ByteArray.toList_eq]; simp [he]
        have HE := Lib.hid he
        clear he
        go_wp2_with fail
        refine ⟨⟨k + 1, by omega, by go_num, Lib.hid (fun j hj => ?_), trivial⟩, by simp [intOf]; omega⟩
        by_cases hjk : j = k
        · subst hjk
          rw [HT.out]
          exact fun e => HE.out (Option.some.inj e)
        · exact HNE.out j (by omega)
    · have h1 : ¬ (k : Int) < 27 := by omega
      have hk27 : k = 27 := by omega
      have hop := opB_miss (s := s.data.toList) (by rw [← hk27]; exact HNE.out)
      have HOP := Lib.hid hop
      clear hop hk27
      go_wp2_with fail
      exact bodyPost_ret (v := .tuple #[.int .i64 0, .bool false]) (by simp [results, Tryd.results5, go_sem]) rfl ⟨by rw [HOP.out], rfl⟩
end Go.Proofs.YtcnfmngcfnpkkaaDoor
