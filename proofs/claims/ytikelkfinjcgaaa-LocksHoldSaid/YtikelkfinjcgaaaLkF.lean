
/-
  Free; the document's example.
-/
import Derived.Test.YtikelkfinjcgaaaLkD
import Derived.Test.YtikelkfinjcgaaaLkE
import Derived.Test.YtikelkfinjcgaaaLkNew
set_option linter.unusedVariables false
set_option linter.unusedSimpArgs false
namespace Go.Proofs.Ytikelkfinjcgaaa
open Go.RowKit Plain

theorem free1_any (w : World) (x : Int) : Calls Try.prog 30 #[.int .i64 x] w fun e w' => e = .returned (.bool (!(x == -1))) ∧ w' = w := by
  by_cases hx : x = -1
  · subst hx
    go_enter Try.func30, Try.ntmps30
    go_wp2_with fail
    go_ret
    exact ⟨rfl, rfl⟩
  · have h1 : (x == -1) = false := by simpa using hx
    rw [show (!(x == -1)) = true by rw [h1]; rfl]
    go_enter Try.func30, Try.ntmps30
    go_wp2_with fail
    go_ret
    exact ⟨by simp [hx], rfl⟩
theorem waits1_any (w : World) (A : Option Addr) (n c : Nat) : Calls Try.prog 51 #[.slice A n c] w fun e w' => e = .returned (.bool (decide (0 < n))) ∧ w' = w := by
  by_cases hx : 0 < n
  · have h1 : (n : Int) > 0 := by omega
    rw [decide_eq_true hx]
    go_enter Try.func51, Try.ntmps51
    go_wp2_with fail
    go_ret
    exact ⟨rfl, rfl⟩
  · have h1 : ¬ (n : Int) > 0 := by omega
    rw [decide_eq_false hx]
    go_enter Try.func51, Try.ntmps51
    go_wp2_with fail
    go_ret
    exact ⟨rfl, rfl⟩
set_option maxHeartbeats 2000000 in
theorem indexI (w : World) (A : Option Addr) (c : Nat) (l : List Int) (n : Nat) (hn : l.length = n) (BB : Nat) (hr : Reads w BB 1 A n (l.map EnI)) (hK : n ≤ 1000000) :
    Calls Try.prog 49 #[.slice A n c, .func (.func 30) #[] #[]] w fun e w' => ∃ r : Int, e = .returned (.int .i64 r) ∧ decide (r ≥ 0) = (l.any fun x => !(x == -1)) ∧ w' = w := by
  have HR := Lib.hid hr; have HN := Lib.hid hn
  clear hr hn
  go_enter Try.func49, Try.ntmps49
  go_wp2_with fail
  go_loopw [8] (fun s8 wr => ∃ k : Nat, k ≤ n ∧ s8 = .int .i64 (k : Int) ∧ Hid ((l.take k).any (fun x => !(x == -1)) = false) ∧ wr = w) (fun s8 _ => n - (intOf s8).toNat)
  case atStart => exact ⟨0, by omega, rfl, Lib.hid (by simp), rfl⟩
  case round =>
    obtain ⟨k, hk, rfl, HI, rfl⟩ := hrel
    by_cases hlt : k < n
    · obtain ⟨ad, x, rfl, _, hx, hcell⟩ := HR.out.num hlt
      have q1 : (k : Int) < (n : Int) := by omega
      have q0 : (0 : Int) ≤ (k : Int) := by omega
      have hs : (l.take (k + 1)).any (fun x => !(x == -1)) = (!(x == -1)) := by
        rw [List.take_add_one, hx, List.any_append, HI.out]
        simp
      have HS := Lib.hid hs; have HX := Lib.hid hx
      clear hs hx
      by_cases hx1 : x = -1
      · have hf := free1_any wr x
        rw [show (!(x == -1)) = false by rw [hx1]; rfl] at hf HS
        have HF := Lib.hid hf
        clear hf hx1
        go_wp2_with fail
        refine HF.out.mono ?_
        rintro e w' ⟨rfl, rfl⟩
        go_wp2_with fail
        exact ⟨⟨k + 1, by omega, by go_num, HS, trivial⟩, by simp [intOf]; omega⟩
      · have hf := free1_any wr x
        have hb : (!(x == -1)) = true := by simpa using hx1
        rw [hb] at hf HS
        have hany : (l.any fun x => !(x == -1)) = true := by
          rw [List.any_eq_true]
          exact ⟨x, List.mem_of_getElem? HX.out, hb⟩
        have HF := Lib.hid hf; have HA := Lib.hid hany
        clear hf hx1 hany hb
        go_wp2_with fail
        refine HF.out.mono ?_
        rintro e w' ⟨rfl, rfl⟩
        go_wp2_with fail
        go_ret
        exact ⟨_, rfl, by rw [HA.out]; simp, rfl⟩
    · obtain rfl : k = n := by omega
      have hany : (l.any fun x => !(x == -1)) = false := by
        have := HI.out
        rwa [List.take_of_length_le (by rw [HN.out]; omega)] at this
      have HA := Lib.hid hany
      clear hany
      go_wp2_with fail
      go_ret
      exact ⟨_, rfl, by rw [HA.out]; rfl, rfl⟩
theorem containsI (w : World) (A : Option Addr) (c : Nat) (l : List Int) (n : Nat) (hn : l.length = n) (BB : Nat) (hr : Reads w BB 1 A n (l.map EnI)) (hK : n ≤ 1000000) :
    Calls Try.prog 31 #[.slice A n c, .func (.func 30) #[] #[]] w fun e w' => e = .returned (.bool (l.any fun x => !(x == -1))) ∧ w' = w := by
  have HI := Lib.hid (indexI w A c l n hn BB hr hK)
  clear hr hn
  go_enter Try.func31, Try.ntmps31
  go_wp2_with fail
  refine HI.out.mono ?_
  rintro e w' ⟨r, rfl, hr, rfl⟩
  have HR := Lib.hid hr
  clear hr HI
  go_wp2_with fail
  go_ret
  exact ⟨by rw [← HR.out]; rfl, rfl⟩
set_option maxHeartbeats 2000000 in
theorem indexS (w : World) (B : Nat) (D : Nat → Prop) (v : Value) (L : List (List Int)) (h : OwnS w B D v L) (hK : L.length ≤ 1000000) :
    Calls Try.prog 55 #[v, .func (.func 51) #[] #[]] w fun e w' => ∃ r : Int, e = .returned (.int .i64 r) ∧ decide (r ≥ 0) = !none_ L ∧ w' = w := by
  obtain ⟨A, c, rfl⟩ := h.slice
  have hat := fun (k : Nat) (hk : k < L.length) => h.at_ hk
  have hne : (!none_ L) = L.any (fun r => decide (0 < r.length)) := by
    unfold none_
    rw [List.not_all_eq_any_not]
    congr 1
    funext r
    cases r <;> simp
  rw [hne]
  obtain ⟨n, hn⟩ : ∃ n, n = L.length := ⟨_, rfl⟩
  rw [← hn] at hat hK ⊢
  have HAT := Lib.hid hat; have HN := Lib.hid hn
  clear h hat hne hn
  go_enter Try.func55, Try.ntmps55
  go_wp2_with fail
  go_loopw [8] (fun s8 wr => ∃ k : Nat, k ≤ n ∧ s8 = .int .i64 (k : Int) ∧ Hid ((L.take k).any (fun r => decide (0 < r.length)) = false) ∧ wr = w) (fun s8 _ => n - (intOf s8).toNat)
  case atStart => exact ⟨0, by omega, rfl, Lib.hid (by simp), rfl⟩
  case round =>
    obtain ⟨k, hk, rfl, HI, rfl⟩ := hrel
    by_cases hlt : k < n
    · obtain ⟨b, cap, A1, c1, e1, e2, e3, e4, e5, e6, e7⟩ := HAT.out k hlt
      injection e1 with e8 e9 e10
      subst e8
      have q1 : (k : Int) < (n : Int) := by omega
      have q0 : (0 : Int) ≤ (k : Int) := by omega
      have hx : L[k]? = some (gl L k) := gl_some (by rw [← HN.out]; exact hlt)
      have hs : (L.take (k + 1)).any (fun r => decide (0 < r.length)) = (decide (0 < (gl L k).length)) := by
        rw [List.take_add_one, hx, List.any_append, HI.out]
        simp
      have HS := Lib.hid hs; have HX := Lib.hid hx
      clear hs hx e4 e6 e7 e2 e10
      generalize hrow : gl L k = row at *
      have hf := waits1_any wr A1 row.length c1
      generalize hm : row.length = m at *
      by_cases hx1 : 0 < m
      · have hany : (L.any fun r => decide (0 < r.length)) = true := by
          rw [List.any_eq_true]
          exact ⟨row, List.mem_of_getElem? HX.out, by rw [hm]; exact decide_eq_true hx1⟩
        rw [decide_eq_true hx1] at hf HS
        have HF := Lib.hid hf; have HA := Lib.hid hany
        clear hf hx1 hany hrow hm
        go_wp2_with fail
        refine HF.out.mono ?_
        rintro e w' ⟨rfl, rfl⟩
        go_wp2_with fail
        go_ret
        exact ⟨_, rfl, by rw [HA.out]; simp, rfl⟩
      · rw [decide_eq_false hx1] at hf HS
        have HF := Lib.hid hf
        clear hf hx1 hrow hm
        go_wp2_with fail
        refine HF.out.mono ?_
        rintro e w' ⟨rfl, rfl⟩
        go_wp2_with fail
        exact ⟨⟨k + 1, by omega, by go_num, HS, trivial⟩, by simp [intOf]; omega⟩
    · obtain rfl : k = n := by omega
      have hany : (L.any fun r => decide (0 < r.length)) = false := by
        have := HI.out
        rwa [List.take_of_length_le (by rw [HN.out]; omega)] at this
      have HA := Lib.hid hany
      clear hany
      go_wp2_with fail
      go_ret
      exact ⟨_, rfl, by rw [HA.out]; rfl, rfl⟩
theorem waits_any (w : World) (B : Nat) (D : Nat → Prop) (v : Value) (L : List (List Int)) (h : OwnS w B D v L) (hK : L.length ≤ 1000000) :
    Calls Try.prog 32 #[v] w fun e w' => e = .returned (.bool (!none_ L)) ∧ w' = w := by
  have HI := Lib.hid (indexS w B D v L h hK)
  obtain ⟨A, c, rfl⟩ := h.slice
  clear h
  have hc : Calls Try.prog 50 #[.slice A L.length c, .func (.func 51) #[] #[]] w fun e w' => e = .returned (.bool (!none_ L)) ∧ w' = w := by
    generalize L.length = n at *
    go_enter Try.func50, Try.ntmps50
    go_wp2_with fail
    refine HI.out.mono ?_
    rintro e w' ⟨r, rfl, hr, rfl⟩
    have HR := Lib.hid hr
    clear hr HI
    go_wp2_with fail
    go_ret
    exact ⟨by rw [← HR.out]; rfl, rfl⟩
  have HC := Lib.hid hc
  clear hc HI
  generalize L.length = n at *
  go_enter Try.func32, Try.ntmps32
  go_wp2_with fail
  refine HC.out.mono ?_
  rintro e w' ⟨rfl, rfl⟩
  go_wp2_with fail
  go_ret
  exact ⟨rfl, rfl⟩
set_option maxRecDepth 100000 in
set_option maxHeartbeats 4000000 in
theorem free_any (w : World) (B : Nat) (h : LkH) (s : Lk) (H : LkM w B h s) (hK1 : s.own.length ≤ 1000000) (hK2 : s.lq.length ≤ 1000000) (hK3 : s.wq.length ≤ 1000000) (hK4 : s.dq.length ≤ 1000000) :
    Calls Try.prog 11 #[.agg h.cells] w fun e w' => e = .returned (.bool (freeV s)) ∧ Below w.heap.size w w' := by
  obtain ⟨A, c, hv, _, hr⟩ := OwnI.slice H.own
  have h1 := containsI (w.alloc (.cells h.cells 27)) A c s.own _ rfl _ (hr.alloc (Nat.le_refl _) _) hK1
  rw [← hv] at h1
  have H2 := H.alloc (.cells h.cells 27)
  have h2 := waits_any _ _ _ _ _ H2.lq hK2
  have h3 := waits_any _ _ _ _ _ H2.wq hK3
  have h4 := waits_any _ _ _ _ _ H2.dq hK4
  have hfree : freeV s = (((!(s.own.any fun x => !(x == -1))) && !(!none_ s.lq)) && !(!none_ s.wq) && !(!none_ s.dq)) := by
    unfold freeV
    rw [List.all_eq_not_any_not]
    simp
  rw [hfree]
  generalize (s.own.any fun x => !(x == -1)) = b1 at *
  generalize (!none_ s.lq) = b2 at *
  generalize (!none_ s.wq) = b3 at *
  generalize (!none_ s.dq) = b4 at *
  have H1 := Lib.hid h1; have H2 := Lib.hid h2; have H3 := Lib.hid h3; have H4 := Lib.hid h4
  clear h1 h2 h3 h4 hv hr hfree H hK1 hK2 hK3 hK4
  obtain ⟨g, vo, vn, vl, vw, vd, c0, c1, c4, c8, c9, X⟩ := h
  simp only [LkH.cells] at *
  cases b1 <;> cases b2 <;> cases b3 <;> cases b4
  all_goals
    go_enter Try.func11, Try.ntmps11
    go_wp2_with fail
    refine H1.out.mono ?_
    rintro e w1 ⟨rfl, rfl⟩
    go_wp2_with fail
    first
      | (go_ret; exact ⟨rfl, (Below.refl _ _).alloc (Nat.le_refl _) _⟩)
      | (refine H2.out.mono ?_
         rintro e w1 ⟨rfl, rfl⟩
         go_wp2_with fail
         first
          | (go_ret; exact ⟨rfl, (Below.refl _ _).alloc (Nat.le_refl _) _⟩)
          | (refine H3.out.mono ?_
             rintro e w1 ⟨rfl, rfl⟩
             go_wp2_with fail
             first
              | (go_ret; exact ⟨rfl, (Below.refl _ _).alloc (Nat.le_refl _) _⟩)
              | (refine H4.out.mono ?_
                 rintro e w1 ⟨rfl, rfl⟩
                 go_wp2_with fail
                 go_ret
                 exact ⟨rfl, (Below.refl _ _).alloc (Nat.le_refl _) _⟩)))
end Go.Proofs.Ytikelkfinjcgaaa
