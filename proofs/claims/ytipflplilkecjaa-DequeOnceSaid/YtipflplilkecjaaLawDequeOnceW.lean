
/-
  The walk of DequeOnce.
-/
import Derived.Test.YtipflplilkecjaaRows
import Derived.WalkKit
import Derived.ProofKit
import Derived.OpenShut
import Derived.ShutString
import Derived.ChangeOld
import Derived.Below
import Derived.Test.YtipflplilkecjaaDqOnce
import Derived.Test.YtipflplilkecjaaRgOwn
import Derived.Test.YtipflplilkecjaaDqOpen
namespace Go.Proofs.Ytipflplilkecjaa.dequeOnce
open Go.ChangeShapes Go.WideShapes Go.ChangeAt Go.RowKit Go.Proofs.Ytipflplilkecjaa Go.Proofs.Ytipflplilkecjaa.Plain
open Go.ChangeMaps (open_string shut_string)
set_option linter.unusedVariables false


theorem info_bool7 : (Try.prog.info? 4).map (fun i => (i.zero, i.size, i.bytes)) = some (some (.bool false), 1, 1) := by kernel_rfl
/-- What is known where a worker takes what is left. -/
structure DoneI (L : List (List Int)) (Q : List Int) (n k : Nat) : Prop where
  len : L.length = n
  own : ∀ j : Nat, j < k → (L[j]?).getD [] = []
  q : 0 < k → Q = []
theorem flat_nil : ∀ {L : List (List Int)}, (∀ j : Nat, (L[j]?).getD [] = []) → L.flatten = []
  | [], _ => rfl
  | l :: L, h => by
    have h0 := h 0
    simp at h0
    subst h0
    have := flat_nil (L := L) (fun j => by simpa using h (j + 1))
    simp [this]
set_option maxRecDepth 100000 in
set_option maxHeartbeats 40000000 in
theorem walk (a0 : Int) (a1 : Int) (a2 : Option Addr) (len2 cap2 : Nat) (z2 : List Deed7) (w : World) (w0 : (Lit.int .i64 a0).wf = true) (w1 : (Lit.int .i64 a1).wf = true) (w2 : IsDeeds7 w a2 len2 cap2 z2) :
    Calls Try.prog 5 #[.int .i64 a0, .int .i64 a1, .slice a2 len2 cap2] w fun e w' => e = .returned (.bool true) ∧ Below w.heap.size w w' := by
  obtain ⟨j0, hj0, hy0, hy1, hy2⟩ := info_parts info_bool7
  obtain ⟨hzl, hzc, hzm, hzd⟩ := w2
  have ba := wf_i64 w0
  have bt := wf_i64 w1
  have har := around_any a0 8 w ba.1 ba.2 (by omega) (by omega)
  have hal := aroundV_lt (n := a0) (m := 8) (by omega)
  generalize aroundV a0 8 = ra at *
  obtain ⟨n0, rfl⟩ := Int.eq_ofNat_of_zero_le hal.1
  obtain ⟨n, hn⟩ : ∃ n, n = n0 + 1 := ⟨_, rfl⟩
  have hn8 : n ≤ 8 := by omega
  have hn1 : 1 ≤ n := by omega
  have hadd : IntKind.i64.wrap ((1 : Int) + (n0 : Int)) = (n : Int) := by rw [IntWalk.i64_in _ (by omega)]; omega
  obtain ⟨room, hroom⟩ : ∃ room, clampD a1 = room := ⟨_, rfl⟩
  have hnew := newP (n : Int) a1 n room w (by unfold clampW; omega) hroom bt.1 bt.2 (by omega) (by omega)
  have harn := fun (W : World) (x : Int) (h : -9223372036854775808 ≤ x ∧ x ≤ 9223372036854775807) => around_any x (n : Int) W h.1 h.2 (by omega) (by omega)
  have HNEW := Lib.hid hnew; have HAR := Lib.hid har; have HARN := Lib.hid harn; have HZL := Lib.hid hzl; have HZD := Lib.hid hzd
  obtain ⟨n60, hn60⟩ : ∃ k, k = min len2 60 := ⟨_, rfl⟩
  have HN60 := Lib.hid hn60
  have hn600 : n60 ≤ 60 := by omega
  clear hnew har harn hzl hzd w0 w1 ba bt hal hn hroom hn60
  go_enter Try.func5, Try.ntmps5
  go_wp2_with fail
  refine HAR.out.mono ?_
  rintro e w' ⟨rfl, rfl⟩
  go_wp2_with fail
  refine HNEW.out.mono ?_
  rintro e w1 ⟨g, d, s, D0, rfl, hp, hD, hb⟩
  have z1 := hb.size
  have hbd := hp.bound
  clear HNEW HAR
  have HP := Lib.hid hp; have HD0 := Lib.hid hD; have HB := Lib.hid hb; have HBD := Lib.hid hbd
  clear hp hD hb hbd hadd
  go_wp2_with (with_reducible refine wpList_make_full _ rfl _ _ _ rfl (w1.heap.size + 1) 4 j0 _ 1 Try.underlying48 hj0 hy0 hy1 _ _ _ _ 60 rfl rfl rfl rfl (by rw [hy2]; omega) (by unfold maxLen; omega) (by simp) ?c5)
  case c5 =>
  intro w2 hown hg
  have hz2 := hg.size
  have hzz : (w1.alloc (.cells #[.int .i64 0] 3)).heap.size = w1.heap.size + 1 := by simp
  rw [hzz] at hz2
  obtain ⟨sl, hsl⟩ : ∃ sl, sl = w1.heap.size + 1 := ⟨_, rfl⟩
  have hsb := blk_of_full2 hown
  rw [made_one] at hsb
  have hgb := ((Blk.new w1 3 #[.int .i64 0]).grown hg (by simp)).alloc (.cells #[.slice (some ⟨w1.heap.size + 1, 0, none⟩) 60 60] 48)
  have hslt := hsb.lt
  have hb2 := Blk.new w2 48 #[.slice (some ⟨w1.heap.size + 1, 0, none⟩) 60 60]
  have hb3 := hsb.alloc (.cells #[.slice (some ⟨w1.heap.size + 1, 0, none⟩) 60 60] 48)
  have hfr : Below w1.heap.size w1 (w2.alloc (.cells #[.slice (some ⟨w1.heap.size + 1, 0, none⟩) 60 60] 48)) := (((Below.refl w1.heap.size w1).alloc (Nat.le_refl _) _).grown hg (by simp) (by simp)).alloc (by omega) _
  have hdo : DO w (w2.alloc (.cells #[.slice (some ⟨w1.heap.size + 1, 0, none⟩) 60 60] 48)) g d s room D0 (List.replicate n []) [] w1.heap.size w2.heap.size (w1.heap.size + 1) 0 (List.replicate 60 false) := by
    refine ⟨HP.out.below hfr (Nat.le_refl _), by simpa using hgb, hb2, by simpa using hb3, ⟨fun e => ?_, fun e => ?_, fun e => ?_⟩, HD0.out, by omega, by omega, HB.out.trans (hfr.mono z1)⟩
    · have := HBD.out _ e; omega
    · have := HBD.out _ e; omega
    · have := HBD.out _ e; omega
  have HDO := Lib.hid hdo
  clear hsb hgb hb2 hb3 hfr hdo hown hg HP HD0 HB HBD hslt hzz hsl
  generalize w1.heap.size + 1 = sl at *
  generalize w1.heap.size = gb at *
  go_wp2_with fail
  generalize w2.heap.size = sb at *
  go_loopw [12] (fun s12 wr => ∃ (k G : Nat) (Dq : Nat → Prop) (L : List (List Int)) (Q : List Int) (seen : List Bool), k ≤ n60 ∧ s12 = .int .i64 (k : Int) ∧ Hid (DO w wr g d s room Dq L Q gb sb sl G seen) ∧ Hid (OI (hasP (L, Q)) G seen ∧ G ≤ k ∧ (hasP (L, Q)).length ≤ k ∧ L.length = n)) (fun s12 _ => n60 - (intOf s12).toNat)
  case atStart => exact ⟨0, 0, D0, _, [], _, by omega, rfl, HDO, Lib.hid ⟨(show OI (hasP (List.replicate n [], [])) 0 (List.replicate 60 false) by simpa [hasP] using OI.nil), Nat.le_refl _, by simp [hasP], by simp⟩⟩
  case round =>
    clear HDO
    obtain ⟨k, G, Dq, L, Q, seen, hk, rfl, HDO, HOI⟩ := hrel
    have hG60 := HOI.out.1.G60
    have cg : wr.cell? ⟨gb, 0, none⟩ = some (.int .i64 (G : Int)) := (HDO.out.b1.cell 0).trans rfl
    have zg : wr.frozen? ⟨gb, 0, none⟩ = false := HDO.out.b1.frozen 0
    have hLn : L.length = n := HOI.out.2.2.2
    have hQ60 : Q.length ≤ 60 := by have := HOI.out.2.2.1; simp [hasP] at this; omega
    have HLN := Lib.hid hLn
    clear hLn
    by_cases hlt : k < n60
    · have hk1 : k < len2 := by have := HN60.out; omega
      have hk2 : k < 60 := by omega
      obtain ⟨ad, rfl, hab, hat⟩ := HZD.out (by omega)
      have hzk : z2[k]? = some (z2[k]'(by have := HZL.out; omega)) := List.getElem?_eq_getElem (by have := HZL.out; omega)
      have hdk := (hat k _ hzk).below (by rw [block_of_add]; exact hab) HDO.out.bel
      generalize z2[k]'(by have := HZL.out; omega) = p at *
      obtain ⟨d0, d1, d2⟩ := hdk.cells
      obtain ⟨-, -, -, pb0, pb1, pb2⟩ := hdk
      have har1 := fun W => HARN.out W p.v pb1
      have har2 := fun W => HARN.out W p.n pb2
      have hv := aroundV_lt (n := p.v) (m := (n : Int)) (by omega)
      have hm := aroundV_lt (n := p.n) (m := (n : Int)) (by omega)
      generalize aroundV p.v (n : Int) = wi at *
      generalize aroundV p.n (n : Int) = wj at *
      have HA1 := Lib.hid har1; have HA2 := Lib.hid har2
      have had : (ad.add (k * 3)).block < w.heap.size := by rw [block_of_add]; exact hab
      have HDL := Lib.hid (fun (W : World) (hb : Below w.heap.size w W) => (show Deed7At W (ad.add (k * 3)) p from (hat k _ hzk).below had hb))
      have hwi : 0 ≤ wi ∧ wi < (L.length : Int) := by rw [HLN.out]; exact hv
      have hwj : 0 ≤ wj ∧ wj < (L.length : Int) := by rw [HLN.out]; exact hm
      have HWI := Lib.hid hwi; have HWJ := Lib.hid hwj
      clear har1 har2 hat hzk pb0 pb1 pb2 hv hm hwi hwj
      by_cases hk0 : p.kind = 0
      · have hG : G < 60 := by have := HOI.out.2.1; omega
        have hgv := giveP_any g d s room Dq L Q wr HDO.out.pl wi (G : Int) (by omega)
        have hpm := give_perm (room := room) (Q := Q) (x := (G : Int)) HWI.out
        generalize giveP room L Q wi (G : Int) = rr at *
        obtain ⟨⟨L', Q'⟩, ee⟩ := rr
        have HGV := Lib.hid hgv; have HPM := Lib.hid hpm
        have hw1 : IntKind.i64.wrap ((G : Int) + 1) = (G : Int) + 1 := IntWalk.i64_in _ (by omega)
        clear hgv hpm
        go_wp2_with fail
        refine (HA1.out _).mono ?_
        rintro e w' ⟨rfl, rfl⟩
        go_wp2_with fail
        refine HGV.out.mono ?_
        rintro e w3 ⟨rfl, ht⟩
        obtain ⟨Dq', hdo⟩ := HDO.out.turn ht
        have cg2 : w3.cell? ⟨gb, 0, none⟩ = some (.int .i64 (G : Int)) := (hdo.b1.cell 0).trans rfl
        have zg2 : w3.frozen? ⟨gb, 0, none⟩ = false := hdo.b1.frozen 0
        have HDO2 := Lib.hid hdo
        clear ht hdo cg zg HGV d0 d1 d2
        go_wp2_with fail
        refine ⟨⟨k + 1, G + 1, Dq', L', Q', seen, by omega, by go_num, Lib.hid HDO2.out.given, Lib.hid ⟨HOI.out.1.give hG HPM.out.1, by have := HOI.out.2.1; omega, ?_, by rw [← HLN.out]; exact HPM.out.2.1⟩⟩, by simp [intOf]; omega⟩
        have := HPM.out.1.length_eq
        have h2 := HOI.out.2.2.1
        simp at this h2
        simp
        omega
      · by_cases hk1 : p.kind = 1
        · have htk := takeP_any g d s room Dq L Q wr HDO.out.pl wi (by omega)
          have hkn : ¬ p.kind = 0 := hk0
          rcases take_cases (Q := Q) HWI.out with ⟨x, L', Q', e1, e2, e3, e4, e5, e6⟩ | ⟨e1, e2, e3⟩
          · rw [e1] at htk
            obtain ⟨kk, rfl, f1, f2, f3⟩ := HOI.out.1.take e2
            have HTK := Lib.hid htk; have HE2 := Lib.hid e2; have HE3 := Lib.hid e3; have HF2 := Lib.hid f2; have HF3 := Lib.hid f3
            clear htk e1 e2 e3 e4 e5 e6 f2 f3
            go_wp2_with fail
            refine (HA1.out _).mono ?_
            rintro e w' ⟨rfl, rfl⟩
            go_wp2_with fail
            refine HTK.out.mono ?_
            rintro e w3 ⟨rfl, ht⟩
            obtain ⟨Dq', hdo⟩ := HDO.out.turn ht
            have HDO2 := Lib.hid hdo
            clear ht hdo cg zg HTK d0 d1 d2
            go_wp2_with fail
            refine (put_yes w w3 g d s room Dq' L' Q' gb sb sl G seen HDO2.out kk f1 hG60 HF2.out).mono ?_
            rintro e w4 ⟨rfl, rfl⟩
            go_wp2_with fail
            refine ⟨⟨k + 1, G, Dq', L', Q', _, by omega, by go_num, Lib.hid (HDO2.out.saw kk), Lib.hid ⟨HF3.out, by have := HOI.out.2.1; omega, ?_, by rw [← HLN.out]; exact HE3.out⟩⟩, by simp [intOf]; omega⟩
            have := HE2.out.length_eq
            have h2 := HOI.out.2.2.1
            simp at this h2
            simp
            omega
          · rw [e1] at htk
            have HTK := Lib.hid htk
            clear htk e1 e2 e3
            go_wp2_with fail
            refine (HA1.out _).mono ?_
            rintro e w' ⟨rfl, rfl⟩
            go_wp2_with fail
            refine HTK.out.mono ?_
            rintro e w3 ⟨rfl, ht⟩
            obtain ⟨Dq', hdo⟩ := HDO.out.turn ht
            have HDO2 := Lib.hid hdo
            clear ht hdo cg zg HTK d0 d1 d2
            go_wp2_with fail
            refine (put_err w w3 g d s room Dq' L Q gb sb sl G seen HDO2.out 7 (by omega)).mono ?_
            rintro e w4 ⟨rfl, rfl⟩
            go_wp2_with fail
            exact ⟨⟨k + 1, G, Dq', L, Q, seen, by omega, by go_num, HDO2, Lib.hid ⟨HOI.out.1, by have := HOI.out.2.1; omega, by have := HOI.out.2.2.1; omega, HLN.out⟩⟩, by simp [intOf]; omega⟩
        · have hst := stealP_any g d s room Dq L Q wr HDO.out.pl wi wj
          have hkn : ¬ p.kind = 0 := hk0
          have hkm : ¬ p.kind = 1 := hk1
          rcases steal_cases (Q := Q) HWI.out HWJ.out with ⟨x, L', e1, e2, e3⟩ | ⟨ec, e0, e1⟩
          · rw [e1] at hst
            obtain ⟨kk, rfl, f1, f2, f3⟩ := HOI.out.1.take e2
            have HTK := Lib.hid hst; have HE2 := Lib.hid e2; have HE3 := Lib.hid e3; have HF2 := Lib.hid f2; have HF3 := Lib.hid f3
            clear hst e1 e2 e3 f2 f3
            go_wp2_with fail
            refine (HA1.out _).mono ?_
            rintro e w' ⟨rfl, rfl⟩
            go_wp2_with fail
            refine (HA2.out _).mono ?_
            rintro e w' ⟨rfl, rfl⟩
            go_wp2_with fail
            refine HTK.out.mono ?_
            rintro e w3 ⟨rfl, ht⟩
            obtain ⟨Dq', hdo⟩ := HDO.out.turn ht
            have HDO2 := Lib.hid hdo
            clear ht hdo cg zg HTK d0 d1 d2
            go_wp2_with fail
            refine (put_yes w w3 g d s room Dq' L' Q gb sb sl G seen HDO2.out kk f1 hG60 HF2.out).mono ?_
            rintro e w4 ⟨rfl, rfl⟩
            go_wp2_with fail
            refine ⟨⟨k + 1, G, Dq', L', Q, _, by omega, by go_num, Lib.hid (HDO2.out.saw kk), Lib.hid ⟨HF3.out, by have := HOI.out.2.1; omega, ?_, by rw [← HLN.out]; exact HE3.out⟩⟩, by simp [intOf]; omega⟩
            have := HE2.out.length_eq
            have h2 := HOI.out.2.2.1
            simp at this h2
            simp
            omega
          · rw [e1] at hst
            have HTK := Lib.hid hst
            clear hst e1
            go_wp2_with fail
            refine (HA1.out _).mono ?_
            rintro e w' ⟨rfl, rfl⟩
            go_wp2_with fail
            refine (HA2.out _).mono ?_
            rintro e w' ⟨rfl, rfl⟩
            go_wp2_with fail
            refine HTK.out.mono ?_
            rintro e w3 ⟨rfl, ht⟩
            obtain ⟨Dq', hdo⟩ := HDO.out.turn ht
            have HDO2 := Lib.hid hdo
            clear ht hdo cg zg HTK d0 d1 d2
            go_wp2_with fail
            refine (put_err w w3 g d s room Dq' L Q gb sb sl G seen HDO2.out ec e0).mono ?_
            rintro e w4 ⟨rfl, rfl⟩
            go_wp2_with fail
            exact ⟨⟨k + 1, G, Dq', L, Q, seen, by omega, by go_num, HDO2, Lib.hid ⟨HOI.out.1, by have := HOI.out.2.1; omega, by have := HOI.out.2.2.1; omega, HLN.out⟩⟩, by simp [intOf]; omega⟩
    · have hcond : (k < len2 ∧ ¬ k < 60) ∨ ¬ k < len2 := by have := HN60.out; omega
      have hstart : Hid (OI (hasP (L, Q)) G seen ∧ (hasP (L, Q)).length ≤ 60 ∧ DoneI L Q n 0) := Lib.hid ⟨HOI.out.1, by have := HOI.out.2.2.1; omega, ⟨HLN.out, fun j hj => by omega, fun h => by omega⟩⟩
      clear cg zg HOI hQ60 HLN hlt HZD HZL HARN
      rcases hcond with ⟨q1, q2⟩ | q1
      all_goals
        go_wp2_with fail
        go_loopw [19] (fun s19 wr => ∃ (m : Nat) (Dq : Nat → Prop) (L : List (List Int)) (Q : List Int) (seen : List Bool), m ≤ n ∧ s19 = .int .i64 (m : Int) ∧ Hid (DO w wr g d s room Dq L Q gb sb sl G seen) ∧ Hid (OI (hasP (L, Q)) G seen ∧ (hasP (L, Q)).length ≤ 60 ∧ DoneI L Q n m)) (fun s19 _ => n - (intOf s19).toNat)
        case atStart => exact ⟨0, Dq, L, Q, seen, by omega, rfl, HDO, hstart⟩
        case round =>
          clear HDO hstart
          obtain ⟨m, Dq, L, Q, seen, hm, rfl, HDO, HOI⟩ := hrel
          by_cases hlm : m < n
          · go_wp2_with fail
            go_loopw [20] (fun s20 wr => ∃ (i : Nat) (Dq : Nat → Prop) (L : List (List Int)) (Q : List Int) (seen : List Bool), i ≤ 61 ∧ s20 = .int .i64 (i : Int) ∧ Hid (DO w wr g d s room Dq L Q gb sb sl G seen) ∧ Hid (OI (hasP (L, Q)) G seen ∧ (hasP (L, Q)).length ≤ 60 ∧ DoneI L Q n m ∧ ((L[m]?).getD []).length + Q.length ≤ 60 - i)) (fun s20 _ => 61 - (intOf s20).toNat)
            case atStart =>
              refine ⟨0, Dq, L, Q, seen, by omega, rfl, HDO, Lib.hid ⟨HOI.out.1, HOI.out.2.1, HOI.out.2.2, ?_⟩⟩
              have hml : m < L.length := by rw [HOI.out.2.2.len]; exact hlm
              have h1 := HOI.out.2.1
              have h2 := flat_at (List.getElem?_eq_getElem hml)
              simp only [hasP, h2, List.length_append] at h1
              rw [List.getElem?_eq_getElem hml, Option.getD_some]
              omega
            case round =>
              clear HDO HOI
              obtain ⟨i, Dq, L, Q, seen, hi, rfl, HDO, HOI⟩ := hrel
              by_cases hli : i < 61
              · have hwm : 0 ≤ (m : Int) ∧ (m : Int) < (L.length : Int) := by rw [HOI.out.2.2.1.len]; omega
                have hQ60 : Q.length ≤ 999999 := by have := HOI.out.2.1; simp [hasP] at this; omega
                have htk := takeP_any g d s room Dq L Q wr HDO.out.pl (m : Int) hQ60
                rcases take_cases (Q := Q) hwm with ⟨x, L', Q', e1, e2, e3, e4, e5, e6⟩ | ⟨e1, e2, e3⟩
                · rw [e1] at htk
                  obtain ⟨kk, rfl, f1, f2, f3⟩ := HOI.out.1.take e2
                  have hfin : OI (hasP (L', Q')) G (seen.set kk true) ∧ (hasP (L', Q')).length ≤ 60 ∧ DoneI L' Q' n m ∧ ((L'[m]?).getD []).length + Q'.length ≤ 60 - (i + 1) := by
                    refine ⟨f3, ?_, ⟨by rw [e3]; exact HOI.out.2.2.1.len, fun j hj => ?_, fun h => ?_⟩, ?_⟩
                    · have := e2.length_eq
                      have h2 := HOI.out.2.1
                      simp at this h2
                      simp
                      omega
                    · rw [e5 j (by simp; omega)]
                      exact HOI.out.2.2.1.own j hj
                    · have := HOI.out.2.2.1.q h
                      rw [this] at e6
                      exact List.eq_nil_of_length_eq_zero (by simpa using e6)
                    · have := HOI.out.2.2.2
                      simp only [Int.toNat_natCast] at e4
                      omega
                  have HTK := Lib.hid htk; have HF2 := Lib.hid f2; have HFIN := Lib.hid hfin
                  clear htk e1 e2 e3 e4 e5 e6 f2 f3 hfin hwm hQ60
                  go_wp2_with fail
                  refine HTK.out.mono ?_
                  rintro e w3 ⟨rfl, ht⟩
                  obtain ⟨Dq', hdo⟩ := HDO.out.turn ht
                  have HDO2 := Lib.hid hdo
                  clear ht hdo HTK
                  go_wp2_with fail
                  refine (put_yes w w3 g d s room Dq' L' Q' gb sb sl G seen HDO2.out kk f1 hG60 HF2.out).mono ?_
                  rintro e w4 ⟨rfl, rfl⟩
                  go_wp2_with fail
                  exact ⟨⟨i + 1, Dq', L', Q', _, by omega, by go_num, Lib.hid (HDO2.out.saw kk), HFIN⟩, by simp [intOf]; omega⟩
                · rw [e1] at htk
                  have hfin : OI (hasP (L, Q)) G seen ∧ (hasP (L, Q)).length ≤ 60 ∧ DoneI L Q n m ∧ ((L[m]?).getD []).length + Q.length ≤ 60 - (i + 1) := by
                    refine ⟨HOI.out.1, HOI.out.2.1, HOI.out.2.2.1, ?_⟩
                    simp only [Int.toNat_natCast] at e2
                    rw [e2, e3]
                    simp
                  have HTK := Lib.hid htk; have HFIN := Lib.hid hfin
                  clear htk e1 e2 e3 hfin hwm hQ60
                  go_wp2_with fail
                  refine HTK.out.mono ?_
                  rintro e w3 ⟨rfl, ht⟩
                  obtain ⟨Dq', hdo⟩ := HDO.out.turn ht
                  have HDO2 := Lib.hid hdo
                  clear ht hdo HTK
                  go_wp2_with fail
                  refine (put_err w w3 g d s room Dq' L Q gb sb sl G seen HDO2.out 7 (by omega)).mono ?_
                  rintro e w4 ⟨rfl, rfl⟩
                  go_wp2_with fail
                  exact ⟨⟨i + 1, Dq', L, Q, seen, by omega, by go_num, HDO2, HFIN⟩, by simp [intOf]; omega⟩
              · have hi61 : i = 61 := by omega
                have hfin : OI (hasP (L, Q)) G seen ∧ (hasP (L, Q)).length ≤ 60 ∧ DoneI L Q n (m + 1) := by
                  have h4 := HOI.out.2.2.2
                  refine ⟨HOI.out.1, HOI.out.2.1, ⟨HOI.out.2.2.1.len, fun j hj => ?_, fun _ => List.eq_nil_of_length_eq_zero (by omega)⟩⟩
                  by_cases hjm : j = m
                  · subst hjm
                    exact List.eq_nil_of_length_eq_zero (by omega)
                  · exact HOI.out.2.2.1.own j (by omega)
                have HFIN := Lib.hid hfin
                clear hfin hi61
                go_wp2_with fail
                exact ⟨⟨m + 1, Dq, L, Q, seen, by omega, by go_num, HDO, HFIN⟩, by simp [intOf]; omega⟩
          · obtain rfl : m = n := by omega
            have hQ : Q = [] := HOI.out.2.2.q (by omega)
            subst hQ
            have hL : L.flatten = [] := flat_nil (fun j => by
              rcases Nat.lt_or_ge j m with h | h
              · exact HOI.out.2.2.own j h
              · rw [List.getElem?_eq_none (by rw [HOI.out.2.2.len]; exact h)]; rfl)
            have hseen : ∀ k : Nat, k < G → seen[k]? = some true := fun k hk => by
              have hkl : k < seen.length := by rw [HOI.out.1.len]; omega
              have hs := List.getElem?_eq_getElem hkl
              by_cases hb : seen[k] = true
              · rw [hs, hb]
              · have hf : seen[k] = false := by simpa using hb
                rw [hf] at hs
                have := HOI.out.1.all k hk hs
                simp [hasP, hL] at this
            have HSEEN := Lib.hid hseen; have HLF := Lib.hid hL
            have HB1 := Lib.hid HDO.out.b1
            clear hseen hL
            go_wp2_with fail
            go_loopw [24] (fun s24 wx => ∃ k : Nat, k ≤ G ∧ s24 = .int .i64 (k : Int) ∧ wr = wx) (fun s24 _ => G - (intOf s24).toNat)
            case atStart => exact ⟨0, by omega, rfl, rfl⟩
            case round =>
              obtain ⟨k, hk, rfl, rfl⟩ := hrel
              have cg : wr.cell? ⟨gb, 0, none⟩ = some (.int .i64 (G : Int)) := (HDO.out.b1.cell 0).trans rfl
              have cs : wr.cell? ⟨sb, 0, none⟩ = some (.slice (some ⟨sl, 0, none⟩) 60 60) := (HDO.out.b2.cell 0).trans rfl
              by_cases hlk : k < G
              · have ck : wr.cell? ⟨sl, k, none⟩ = some (.bool true) := by
                  rw [HDO.out.b3.cell]
                  simp [HSEEN.out k hlk]
                have k2 : (0 : Int) ≤ (k : Int) := by omega
                have k3 : (k : Int) < 60 := by omega
                go_wp2_with fail
                exact ⟨⟨k + 1, by omega, by go_num, trivial⟩, by simp [intOf]; omega⟩
              · have hln := lenP g d s room Dq L [] wr HDO.out.pl (by rw [HLF.out]; simp)
                rw [HLF.out] at hln
                have HLEN := Lib.hid hln
                clear hln
                go_wp2_with fail
                refine HLEN.out.mono ?_
                rintro e w' ⟨rfl, rfl⟩
                go_wp2_with fail
                refine (lives_dq _).mono ?_
                rintro e w' ⟨rfl, hbl⟩
                go_wp2_with fail
                go_ret
                exact ⟨rfl, HDO.out.bel.trans (hbl.mono HDO.out.bel.size)⟩
end Go.Proofs.Ytipflplilkecjaa.dequeOnce
