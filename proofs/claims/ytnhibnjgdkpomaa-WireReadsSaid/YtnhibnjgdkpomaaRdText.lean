/-
  What a Reader's Text tells where a text stands at the place.
-/
import Derived.Test.YtnhibnjgdkpomaaRdSigned
import Derived.Laws.IdiomStrings
import Derived.Laws.BytesArg
namespace Go.Proofs.Ytnhibnjgdkpomaa
open Go.RowKit Plain

/-- The text of bytes. -/
def TX (l : List Nat) : ByteArray := ⟨(l.map UInt8.ofNat).toArray⟩

theorem run_text_of {P : Program} (w : World) (src dst e : TypeId) (BB : Nat) (A : Option Addr) (m cap : Nat) (l : List Nat) (hr : Reads w BB 1 A m (BS l)) (hl : ∀ x ∈ l, x < 256) (hs : P.underlying src = some (.slice e)) (he : P.underlying e = some (.int .u8)) (hd : P.underlying dst = some .string) :
    (convert src dst (.slice A m cap)).run P w = .ok (.string (TX l)) w := by
  have hlm : l.length = m := by have := hr.1; simpa [BS] using this
  rcases A with _ | a
  · have hm : m = 0 := by
      rcases Nat.eq_zero_or_pos m with h0 | h0
      · exact h0
      · obtain ⟨ad, h, _⟩ := hr.2 h0
        cases h
    subst hm
    have : l = [] := List.eq_nil_of_length_eq_zero hlm
    subst this
    exact run_convert_bytes_nil w src e hs he 0 cap dst hd
  · have h := run_convert_bytes_back (P := P) w src dst e a cap (l.map UInt8.ofNat) hs he hd (fun j hj => by
      simp at hj
      obtain ⟨ad, h, _, hc⟩ := hr.2 (by omega)
      injection h with h
      subst h
      have hx := hl _ (List.getElem_mem hj)
      rw [hc j (B l[j]) (by simp [BS, hj])]
      simp [B]
      omega)
    rw [List.length_map, hlm] at h
    exact h

set_option maxHeartbeats 400000 in
theorem cl_text_yes (xs : List Nat) (n S K : Nat) (hl : xs.length = n) (hx : ∀ x ∈ xs, x < 256) (w : World) (BB : Nat) (A : Option Addr) (c cv : Nat) (v0 : Value) (ha : Reads w BB 1 A n (BS xs)) (hn : n ≤ 140737488355328) (hnc : n ≤ c)
    (hcv : Blk w cv 9 #[v0]) (hrs : rs xs = (S, K, 0)) (hS : K + S ≤ n) :
    Calls Try.prog 52 #[.slice A n c, .pointer (some ⟨cv, 0, none⟩)] w fun en w1 =>
      en = .returned (.tuple #[.int .i64 ((K + S : Nat) : Int), .int .i64 ((0 : Nat) : Int)]) ∧ Blk w1 cv 9 #[.string (TX ((xs.drop K).take S))] ∧ Fr (fun i => i = cv) w w1 := by
  have hc : w.cell? ⟨cv, 0, none⟩ = some v0 := by rw [hcv.cell]; rfl
  have hf := hcv.frozen 0
  have HB := Lib.hid hcv
  have HRS := Lib.hid hrs
  have hcut := ha.cut (k := K) (cap := c) (by omega) hnc
  simp only [Nat.mul_one] at hcut
  rw [show (BS xs).drop K = BS (xs.drop K) by simp [BS]] at hcut
  have hcut2 := hcut.take (m := S) (by omega)
  have hxs : ∀ x ∈ (xs.drop K).take S, x < 256 := fun x h => hx x (List.mem_of_mem_drop (List.mem_of_mem_take h))
  have hstr := fun cap => run_text_of (P := Try.prog) w 23 9 5 BB _ S cap _ hcut2 hxs Try.underlying23 Try.underlying5 Try.underlying9
  generalize TX ((xs.drop K).take S) = T at *
  clear hcut hcut2 hxs hcv hrs
  by_cases hck : c = K
  · obtain rfl : S = 0 := by omega
    subst hck
    rw [if_pos rfl] at hstr
    go_enter Try.func52, Try.ntmps52
    go_wp2_with fail
    refine (rshort_any xs n hl hx w BB A c ha hn).mono ?_
    rintro e w' ⟨he, rfl⟩
    unfold Told at he
    rw [HRS.out] at he
    subst he
    go_wp2_with fail
    go_ret2
    refine ⟨rfl, by simpa using HB.out.set_ 0 _, fr_one _⟩
  · rw [if_neg hck] at hstr
    go_enter Try.func52, Try.ntmps52
    go_wp2_with fail
    refine (rshort_any xs n hl hx w BB A c ha hn).mono ?_
    rintro e w' ⟨he, rfl⟩
    unfold Told at he
    rw [HRS.out] at he
    subst he
    go_wp2_with fail
    go_ret2
    refine ⟨rfl, by simpa using HB.out.set_ 0 _, fr_one _⟩

set_option maxHeartbeats 400000 in
theorem rd_text_yes (base g : Nat) (v : Value) (bs : List Nat) (at_ S K : Nat) (w : World) (hR : Rd w base g v bs at_ 0) (hx : ∀ x ∈ bs, x < 256) (hlen : bs.length ≤ 140737488355328) (hrs : rs (bs.drop at_) = (S, K, 0)) (hK : at_ + (K + S) ≤ bs.length) :
    Calls Try.prog 24 #[.pointer (some ⟨g, 0, none⟩)] w fun en w' => en = .returned (.string (TX (((bs.drop at_).drop K).take S))) ∧ RdStep base g v bs (at_ + (K + S), 0) w w' := by
  have HR := Lib.hid hR
  have HX := Lib.hid hx
  have HRS := Lib.hid hrs
  clear hR hx hrs
  go_enter Try.func24, Try.ntmps24
  go_wp2_with fail
  refine (read_with base g w.heap.size v (.string ⟨#[]⟩) (.string (TX (((bs.drop at_).drop K).take S))) 9 bs at_ 0 _ (HR.out.alloc _) (Blk.new w _ _) (by decide) (by decide) 52 #[.pointer (some ⟨w.heap.size, 0, none⟩)]
    (fun args W => by go_simp) hlen (K + S) 0 (fun _ A n c h1 h2 h3 => (cl_text_yes (bs.drop at_) n S K (by rw [List.length_drop]; omega) (fun x hx => HX.out x (List.mem_of_mem_drop hx)) _ _ A c w.heap.size _ h2 (by omega) h3 (Blk.new w _ _).drew HRS.out (by omega)).mono ?_) hK).mono ?_
  · rintro en w1 ⟨rfl, h4, h5⟩
    exact ⟨rfl, h4, ((Fr.refl _ _).drew).trans h5 (fun _ _ h => h)⟩
  rintro en w' ⟨rfl, h4, h5, h6⟩
  have hc5 : w'.cell? ⟨w.heap.size, 0, none⟩ = some (.string (TX (((bs.drop at_).drop K).take S))) := by rw [h5.cell]; rfl
  have H4 := Lib.hid h4
  have H6 := Lib.hid h6
  clear h4 h5 h6
  go_wp2_with fail
  go_ret
  refine ⟨?_, RdStep.of_new H4.out H6.out⟩
  rw [List.drop_drop]
  rfl
end Go.Proofs.Ytnhibnjgdkpomaa
