/- scc: the heap's methods, walked. -/
import Derived.Test.YtneehdjaaofjaaaEk
import Derived.Test.YtneehdjaaofjaaaEl
import Derived.Test.YtneehdjaaofjaaaEe
import Derived.Test.YtneehdjaaofjaaaE3
import Derived.Deep.DeepCutAuto
import Derived.BigQuiet
import Derived.Handy
import Derived.Deep.RegionLaw
namespace Go.Proofs.Ytneehdjaaofjaaa
open Go.RowKit
structure HpV (W : World) (m : Nat) (v : Value) (L : List Int) : Prop where
  made ::
  box : W.heap[m]? = some (.cells #[v] 49 (0, 0))
  own : OwN 0 W v L
/-- What of memory a step of the heap turns: its box, its numbers' block, what is new. -/
structure HpT (W W' : World) (m : Nat) (v v' : Value) : Prop where
  made ::
  os : W'.os = W.os
  tape : W'.tape = W.tape
  output : W'.output = W.output
  size : W.heap.size ≤ W'.heap.size
  block : ∀ k, k < W.heap.size → k ≠ m → v.ownBlock ≠ some k → W'.heap[k]? = W.heap[k]?
  own : ∀ k, v'.ownBlock = some k → v.ownBlock = some k ∨ W.heap.size ≤ k
theorem HpT.refl (W : World) (m : Nat) (v : Value) : HpT W W m v v := ⟨rfl, rfl, rfl, Nat.le_refl _, fun _ _ _ _ => rfl, fun _ h => .inl h⟩
theorem HpT.trans {A B C : World} {m : Nat} {u v x : Value} (h : HpT A B m u v) (k : HpT B C m v x) : HpT A C m u x :=
  ⟨k.os.trans h.os, k.tape.trans h.tape, k.output.trans h.output, Nat.le_trans h.size k.size, fun q hq h1 h2 => (k.block q (Nat.lt_of_lt_of_le hq h.size) h1 (fun e => by
    rcases h.own q e with h3 | h3
    · exact h2 h3
    · omega)).trans (h.block q hq h1 h2), fun q hq => by
    rcases k.own q hq with h3 | h3
    · exact h.own q h3
    · exact .inr (Nat.le_trans h.size h3)⟩
theorem HpT.of_gr {A B : World} {m : Nat} {v : Value} {o : Option Nat} (g : A.grownBy B o) (ho : ∀ k, o = some k → k = m ∨ v.ownBlock = some k) : HpT A B m v v :=
  ⟨g.os, g.tape, g.output, g.size, fun k hk h1 h2 => g.block k hk (fun e => by
    rcases ho k e.symm with h3 | h3
    · exact h1 h3
    · exact h2 h3), fun _ h => .inl h⟩
theorem HpV.cell {W : World} {m : Nat} {v : Value} {L : List Int} (h : HpV W m v L) : W.cell? ⟨m, 0, none⟩ = some v := by simp [World.cell?, h.box]
theorem HpV.gr {W W' : World} {m : Nat} {v : Value} {L : List Int} (h : HpV W m v L) (g : W.grownBy W' none) : HpV W' m v L := ⟨(g.block _ (lt_of_heap h.box) (by simp)).trans h.box, h.own.gr g⟩
theorem HpV.some_ {W : World} {m : Nat} {v : Value} {L : List Int} (h : HpV W m v L) (hl : 0 < L.length) : ∃ b c, v = .slice (some ⟨b, 0, none⟩) L.length c ∧ b ≠ m := by
  obtain ⟨b, c, e, _, _⟩ := own_some h.own hl
  refine ⟨b, c, e, fun e2 => ?_⟩
  subst e2
  exact h.own.ne h.box (by decide) (by rw [e]; rfl)
set_option maxRecDepth 100000 in
set_option maxHeartbeats 4000000 in
theorem silen_any (A : Option Addr) (n c : Nat) (W : World) : Calls Try.prog 25 #[.slice A n c] W fun e w' => e = .returned (.int .i64 n) ∧ W = w' := by
  go_enter Try.func25, Try.ntmps25
  go_wp2_with fail
  go_ret
  exact ⟨rfl, rfl⟩
set_option maxRecDepth 100000 in
set_option maxHeartbeats 4000000 in
theorem less_any (b n c base : Nat) (L : List Int) (W : World) (h : OwN base W (.slice (some ⟨b, 0, none⟩) n c) L) (hn : n = L.length) (i j : Nat) (hi : i < n) (hj : j < n) :
    Calls Try.prog 75 #[.slice (some ⟨b, 0, none⟩) n c, .int .i64 i, .int .i64 j] W fun e w' => e = .returned (.bool (decide (gI L i < gI L j))) ∧ W.grownBy w' none := by
  have ci := h.cell hn (gI_at (L := L) (k := i) (by omega))
  have cj := h.cell hn (gI_at (L := L) (k := j) (by omega))
  generalize gI L i = x at *
  generalize gI L j = y at *
  clear h hn
  go_enter Try.func75, Try.ntmps75
  go_wp2_with fail
  go_quiet (fail)
  go_wp2_with fail
  go_ret
  exact ⟨rfl, gr_drewN (grownBy_refl _ _) _⟩
set_option maxRecDepth 100000 in
set_option maxHeartbeats 4000000 in
theorem swap_any (b n c base : Nat) (L : List Int) (W : World) (h : OwN base W (.slice (some ⟨b, 0, none⟩) n c) L) (hn : n = L.length) (i j : Nat) (hi : i < n) (hj : j < n) :
    Calls Try.prog 79 #[.slice (some ⟨b, 0, none⟩) n c, .int .i64 i, .int .i64 j] W fun e w' => e = .returned (.tuple #[]) ∧ OwN base w' (.slice (some ⟨b, 0, none⟩) n c) (swp L i j) ∧ W.grownBy w' (some b) := by
  have ci := h.cell hn (gI_at (L := L) (k := i) (by omega))
  have cj := h.cell hn (gI_at (L := L) (k := j) (by omega))
  have fi := h.fr hn i
  have fj := h.fr hn j
  obtain ⟨h1, g1⟩ := h.set hn i (gI L j)
  obtain ⟨h2, g2⟩ := h1.set (by rw [List.length_set]; exact hn) j (gI L i)
  have H2 := Lib.hid (show OwN base _ _ (swp L i j) from h2)
  have G2 := Lib.hid (grownBy_trans g1 g2)
  clear h1 g1 h2 g2
  generalize gI L i = x at *
  generalize gI L j = y at *
  obtain ⟨v', hy'⟩ := cell?_setCell_some (w := W) (p := ⟨b, i, none⟩) (x := .int .i64 y) (q := ⟨b, j, none⟩) cj
  clear h hn
  go_enter Try.func79, Try.ntmps79
  go_wp2_with fail
  go_region
  all_goals (try go_wp2_with fail)
  all_goals go_end0
  all_goals exact ⟨rfl, H2.out.gr (gr_drewN (grownBy_refl _ _) 1), gr_drewN G2.out 1⟩

end Go.Proofs.Ytneehdjaaofjaaa
