
/-
  The places of the picks that are a worker's, as they are when they are asked: a copy, told one by one, as a range that may stop asks.
-/
import Derived.Test.YtgongcbbbhdjeaaFrC
import Derived.RangeFuncKeeps
set_option linter.unusedVariables false
set_option linter.unusedSimpArgs false
namespace Go.Proofs.Ytgongcbbbhdjeaa
open Go.RowKit Go.Shelf Plain
attribute [local go_sem] Oper.semAt_some

theorem wpListIn_append_own_atF {F : Fence} {n : Nat} {P : Program} (w : World) {ops : Array Oper} {rest : List Oper} {o : Oper} {a : Act} {Q : Exit → Act → World → Prop}
    (hg : o.guard = none) (s x : Operand) (t : TypeId) (hop : o.op = Op.call { callee := Callee.builtin Builtin.append, args := #[s, x], argTypes := #[t, t] })
    (base : Nat) (e : TypeId) (i : TypeInfo) (z : Value) (size bytes : Nat) (h1 : P.underlying t = some (.slice e)) (h2 : P.info? e = some i) (h3 : i.zero = some z) (h4 : i.size = size) (h5 : i.bytes = bytes) (h6 : z.cells.size = size) (h7 : 0 < size)
    (v : Value) (k : Nat) (xs : List Value) (hs : a.eval s = v) (hown : w.ownsRow base e size v k xs) (ad : Addr) (m c : Nat) (news : List Value) (hx : a.eval x = .slice (some ad) m c) (hn : news.length = m * size)
    (hc : ∀ j u, news[j]? = some u → w.cell? (ad.add j) = some u) (h1c : ∀ u ∈ news, u.oneCell' = true) (b1 : k + m ≤ maxLen) (b2 : (k + m) * bytes ≤ 140737488355328) (b3 : base ≤ w.heap.size)
    (hK : ∀ v' w', w'.ownsRow base e size v' (k + m) (xs ++ news) → w.grownBy w' v.ownBlock → (v'.ownBlock = v.ownBlock ∨ v'.ownBlock = some w.heap.size) → wpListIn F n P ops Q rest (a.put o.dst v') w') :
    wpListIn F n P ops Q (o :: rest) a w := by
  refine wpListIn_plain hg fun K hK' => ?_
  obtain ⟨v', w', hrun, r1, r2, _, r3⟩ := run_append_own_at (P := P) w base t o.type e i z size bytes h1 h2 h3 h4 h5 h6 h7 v k xs hown ad m c news hn hc h1c b1 b2 b3
  unfold Oper.wpIn
  refine ⟨?_, ?_⟩
  · simp [Oper.about, hop, resolve, Target.leads, Sem.run_pure]
  · rw [Oper.semAt_plain F _ _ (by rw [hop]; intro c hc'; cases hc')]
    simp [execOp, hop, resolve, invoke, builtin, hs, hx, hrun, Result.andThen]
    exact hK' _ _ (hK v' w' r1 r2 r3)
theorem ints_one (l : List Int) : ∀ u ∈ l.map EnI, u.oneCell' = true := by
  intro u hu
  obtain ⟨x, _, rfl⟩ := List.mem_map.1 hu
  rfl
set_option maxHeartbeats 1000000 in
theorem clone_any (w : World) (BB : Nat) (A : Option Addr) (N c : Nat) (l : List Int) (hr : Reads w BB 1 A N (l.map EnI)) (hl : l.length = N) (hA : A = none → N = 0 ∧ c = 0) (hN : N ≤ 1000000) (hBB : BB ≤ w.heap.size) :
    Calls Try.prog 31 #[.slice A N c] w fun e w' => ∃ v, e = .returned v ∧ OwnI w' w.heap.size v l ∧ Below w.heap.size w w' := by
  obtain ⟨i0, hi0, hz0, hz1, hz2⟩ := info_parts info_int
  rcases A with _ | ad
  · obtain ⟨rfl, rfl⟩ := hA rfl
    have hl0 : l = [] := List.eq_nil_of_length_eq_zero hl
    subst hl0
    have hnil : ∀ W, (binOp .eql 22 (.slice none 0 0) (.slice none 0 0)).run Try.prog W = .ok (.bool true) W := fun W => by kernel_rfl
    go_enter Try.func31, Try.ntmps31
    go_wp2_with fail
    go_ret
    exact ⟨_, rfl, OwnI.nil _ _, Below.refl _ _⟩
  · have hnil := fun W => Go.Lib.run_eql_slice_nil (P := Try.prog) W 22 3 (some ad) N c 0 0 Try.underlying22
    have HR := Lib.hid hr; have HL := Lib.hid hl
    have hown : (w.alloc (.cells #[] 3)).ownsRow w.heap.size 3 1 (.slice (some ⟨w.heap.size, 0, none⟩) 0 0) 0 [] := ⟨rfl, .inr ⟨w.heap.size, 0, #[], rfl, Nat.le_refl _, heap_alloc_new w _, Nat.le_refl _, by unfold maxLen; omega, rfl, rfl⟩⟩
    clear hr hl
    go_enter Try.func31, Try.ntmps31
    go_wp2_with (at_builtin; go_must (refine wpList_append_any _ rfl (.tmp 5) (.tmp 6) _ rfl w.heap.size 3 i0 _ 1 8 Try.underlying22 hi0 hz0 hz1 hz2 rfl (by decide) (.slice (some ⟨w.heap.size, 0, none⟩) 0 0) 0 [] rfl hown _ _ N c (l.map EnI) rfl (HR.out.alloc hBB _) ?f0 ?f1 ?f2 ?f3 ?f4))
    case f0 => exact ints_one l
    case f1 => unfold maxLen; omega
    case f2 => omega
    case f3 => simp
    case f4 =>
    intro v5 w6 hown6 hgr hat
    have hbel : Below w.heap.size w w6 := ((Below.refl w.heap.size w).alloc (Nat.le_refl _) _).grown hgr (by simp) (fun r hr => by simp [Value.ownBlock] at hr; omega)
    have hown7 : OwnI w6 w.heap.size v5 l := by
      unfold OwnI
      rw [HL.out]
      simpa using hown6
    have HO := Lib.hid hown7; have HB := Lib.hid hbel
    clear hown7 hown6 hgr hat hown hbel
    go_wp2_with fail
    go_ret
    exact ⟨_, rfl, HO.out, HB.out⟩
set_option maxHeartbeats 1000000 in
theorem each_any (w : World) (BB : Nat) (A : Option Addr) (N c : Nat) (l : List Int) (hr : Reads w BB 1 A N (l.map EnI)) (hl : l.length = N) (hA : A = none → N = 0 ∧ c = 0) (hN : N ≤ 1000000) (hBB : BB ≤ w.heap.size) (n : Int) (h1 : -9223372036854775808 ≤ n) (h2 : n ≤ 9223372036854775807) :
    Calls Try.prog 25 #[.slice A N c, .int .i64 n] w fun e w' => ∃ bx A' c', e = .returned (.func (.func 32) #[] #[.pointer (some ⟨bx, 0, none⟩), .pointer (some ⟨bx + 1, 0, none⟩)]) ∧
      Blk w' bx 22 #[.slice A' N c'] ∧ Blk w' (bx + 1) 3 #[.int .i64 (manyV n : Int)] ∧ Reads w' bx 1 A' N (l.map EnI) ∧ w.heap.size ≤ bx ∧ w'.heap.size = bx + 1 + 1 ∧ Below w.heap.size w w' ∧ ∀ ad, A' = some ad → w.heap.size ≤ ad.block := by
  have hcl := clone_any w BB A N c l hr hl hA hN hBB
  have HC := Lib.hid hcl; have HL := Lib.hid hl
  clear hcl hr hl
  go_enter Try.func25, Try.ntmps25
  go_wp2_with fail
  refine HC.out.mono ?_
  rintro e w1 ⟨v, rfl, ho, hb⟩
  obtain ⟨A', c', rfl, hc', hrd⟩ := ho.slice
  rw [HL.out] at hrd ⊢
  have hbl : ∀ ad, A' = some ad → w.heap.size ≤ ad.block := by
    intro ad e
    subst e
    rcases ho.2 with ⟨h, _⟩ | ⟨g, cap, cur, h, hb, _⟩
    · cases h
    · injection h with h
      injection h with h
      subst h
      exact hb
  have HO := Lib.hid hrd; have HB := Lib.hid hb; have HBL := Lib.hid hbl
  clear ho hb hrd hbl
  go_wp2_with fail
  refine (places_any _ A' N c' n h1 h2).mono ?_
  rintro e w2 ⟨rfl, rfl⟩
  go_wp2_with fail
  go_ret
  have hz := HB.out.size
  refine ⟨w1.heap.size, A', c', rfl, (Blk.new _ _ _).alloc _, ?_, (HO.out.alloc (Nat.le_refl _) _).alloc (by simp) _, hz, by simp, (HB.out.alloc hz _).alloc (by simp; omega) _, HBL.out⟩
  have := Blk.new (w1.alloc (.cells #[.slice A' N c'] 22)) 3 #[.int .i64 (manyV n : Int)]
  simpa using this

/-- The blocks ahead of B are kept. -/
def KpB (B : Nat) (W W' : World) : Prop := ∀ i, i < B → W'.heap[i]? = W.heap[i]?
theorem KpB.trans {B : Nat} {X Y Z : World} (h : KpB B X Y) (k : KpB B Y Z) : KpB B X Z := fun i hi => (k i hi).trans (h i hi)
theorem KpB.refl (B : Nat) (X : World) : KpB B X X := fun _ _ => rfl
theorem KpB.cell {B : Nat} {X Y : World} (h : KpB B X Y) {p : Addr} (hp : p.block < B) : Y.cell? p = X.cell? p := World.cell?_of_block (h p.block hp)
theorem KpB.of_fr {B : Nat} {S : Nat → Prop} {X Y : World} (h : Fr S X Y) (hB : B ≤ X.heap.size) (hS : ∀ i, S i → B ≤ i) : KpB B X Y := fun i hi => h.block i (by omega) (fun e => by have := hS i e; omega)
/-- The places, as a range that may stop asks for them. -/
theorem places_stops (n : Nat) (hn : 1 ≤ n) (bx : Nat) (A : Option Addr) (N c M : Nat) (l : List Int) (hl : l.length = N) (hN : N ≤ 140737488355328) (w : World)
    (h0 : Blk w bx 22 #[.slice A N c]) (h1 : Blk w (bx + 1) 3 #[.int .i64 (M : Int)]) (h2 : Reads w bx 1 A N (l.map EnI)) (B : Nat) (hB : bx + 1 < B) (hBw : B ≤ w.heap.size) :
    SeqStopsK Fence.wide n Try.prog 32 #[.pointer (some ⟨bx, 0, none⟩), .pointer (some ⟨bx + 1, 0, none⟩)] (fun x : Nat => #[Value.int .i64 (x : Int)]) (KpB B) (fun ys => ys = placesV l M N)
      (fun pre => ∃ k, k < N ∧ pre = placesV l M (k + 1)) N w := by
  intro q J Jx W hW _ _ hY hJ0
  have hkW : KpB B w W := fun i hi => hW.block i (by omega)
  refine (places_in n hn q bx (bx + 1) A N c M l hl hN (fun pre W' => J pre W' ∧ KpB B W W') Jx (fun pre W' hJ => ?_) (fun pre x W' hJ hv => ?_) W ⟨hJ0, KpB.refl _ _⟩).mono ?_
  · have hk := hkW.trans hJ.2
    exact ⟨(hk.cell (p := ⟨bx, 0, none⟩) (by show bx < B; omega)).trans ((h0.cell 0).trans rfl), (hk.cell (p := ⟨bx + 1, 0, none⟩) (by show bx + 1 < B; omega)).trans ((h1.cell 0).trans rfl), bx, h2.keep fun p hp => hk.cell (by omega)⟩
  · have hlen : pre.length < N := by
      rw [hv.2.2]
      have := placesV_len l M x
      omega
    refine (hY pre x W' hJ.1 hlen).mono ?_
    rintro e W2 (⟨rfl, h3, h4⟩ | h3)
    · exact .inl ⟨rfl, h3, hJ.2.trans h4⟩
    · exact .inr h3
  · rintro e W' ⟨h3, h4 | ⟨k, hk, h4⟩⟩
    · exact ⟨h3, .inl ⟨_, rfl, h4.1⟩⟩
    · exact ⟨h3, .inr ⟨_, ⟨k, hk, rfl⟩, h4⟩⟩
theorem own_keeps {W W' : World} {base : Nat} {v : Value} {l : List Int} (h : OwnI W base v l) {row : Option Nat} (hg : W.grownBy W' row) (hr : ∀ r, row = some r → ∃ o : Obj, W.heap[r]? = some o ∧ o.isCells = false) : OwnI W' base v l := by
  refine (Fr.of_grown hg).own h fun i hi e => ?_
  obtain ⟨o, ho, hc⟩ := hr i e
  rcases h.2 with ⟨rfl, _⟩ | ⟨g, cap, cur, rfl, _, hh, _⟩
  · simp [Value.ownBlock] at hi
  · simp [Value.ownBlock] at hi
    subst hi
    rw [hh] at ho
    cases ho
    simp [Obj.isCells] at hc
end Go.Proofs.Ytgongcbbbhdjeaa
