/- ir: slices that hold ints; what a letter reads; what an instruction reads. -/
import Derived.Test.YtdknclhbnhiojaaDoorI2
import Derived.Laws.RangeAny
import Derived.Laws.AppendOwn
import Derived.Laws.AppendOwnNone
import Derived.LoopTactic
import Derived.Tactics2
namespace Go.Proofs.YtdknclhbnhiojaaDoor
open Go.RowKit
def intsV (l : List Int) : List Value := l.map fun x => Value.int .i64 x
/-- The slice (A, n, c) holds the ints l. -/
def IntsAt (w : World) (A : Option Addr) (n c : Nat) (l : List Int) : Prop :=
  n = l.length ∧ ((A = none ∧ n = 0 ∧ c = 0) ∨ ∃ ad, A = some ad ∧ ∀ j x, l[j]? = some x → w.cell? (ad.add j) = some (.int .i64 x))
/-- w' has w's cells. -/
def CellsK (w w' : World) : Prop := w.heap.size ≤ w'.heap.size ∧ ∀ (p : Addr) u, w.cell? p = some u → w'.cell? p = some u
theorem CellsK.refl (w : World) : CellsK w w := ⟨Nat.le_refl _, fun _ _ h => h⟩
theorem CellsK.trans {a b c : World} (h : CellsK a b) (k : CellsK b c) : CellsK a c := ⟨Nat.le_trans h.1 k.1, fun p u hu => k.2 p u (h.2 p u hu)⟩
theorem CellsK.of {w w' : World} (g : w.grownBy w' none) : CellsK w w' :=
  ⟨g.size, fun p u hu => (World.cell?_of_block (g.block p.block (World.block_lt_of_cell? w p hu) (by simp))).trans hu⟩
theorem CellsK.alloc (w : World) (o : Obj) : CellsK w (w.alloc o) := CellsK.of (gr_alloc (grownBy_refl _ _) o)
theorem CellsK.drew (w : World) : CellsK w w.drew := ⟨Nat.le_refl _, fun _ _ h => h⟩
/-- Only block b has turned, and that held no cells. -/
theorem CellsK.of_row {w w' : World} {b : Nat} {s : ByteArray} {pos : Nat} (hb : w.heap[b]? = some (.stringIter s pos)) (g : w.grownBy w' (some b)) : CellsK w w' :=
  ⟨g.size, fun p u hu => (World.cell?_of_block (g.block p.block (World.block_lt_of_cell? w p hu) (fun e => by
    have e' : b = p.block := (Option.some.inj e).symm
    subst e'
    simp [World.cell?, hb] at hu))).trans hu⟩
theorem IntsAt.keep {w w' : World} {A : Option Addr} {n c : Nat} {l : List Int} (h : IntsAt w A n c l) (k : CellsK w w') : IntsAt w' A n c l :=
  ⟨h.1, h.2.imp id fun ⟨ad, e, hc⟩ => ⟨ad, e, fun j x hx => k.2 _ _ (hc j x hx)⟩⟩
theorem IntsAt.nil (w : World) : IntsAt w none 0 0 [] := ⟨rfl, .inl ⟨rfl, rfl, rfl⟩⟩
theorem add_none (b o j : Nat) : (⟨b, o, none⟩ : Addr).add j = ⟨b, o + j, none⟩ := by
  unfold Addr.add; split
  · rename_i h; subst h; rfl
  · rfl
theorem IntsAt.new (w : World) (l : List Int) (t : TypeId) (b c : Nat) (cs : Array Value) (hcs : cs.toList = intsV l) (hb : b = w.heap.size) : IntsAt (w.alloc (.cells cs t)) (some ⟨b, 0, none⟩) l.length c l := by
  subst hb
  refine ⟨rfl, .inr ⟨_, rfl, fun j x hx => ?_⟩⟩
  rw [add_none, Nat.zero_add, cell_of_row _ _ _ _ _ _ (heap_alloc_new w _), ← Array.getElem?_toList, hcs]
  simp [intsV, hx]
/-- What a call tells that returns the ints l. -/
def RetInts (w : World) (l : List Int) (e : Ending) (w' : World) : Prop :=
  ∃ A n c, e = .returned (.slice A n c) ∧ IntsAt w' A n c l ∧ w.grownBy w' none
theorem RetInts.mk {w w' : World} {l : List Int} {A : Option Addr} {n c : Nat} (h : IntsAt w' A n c l) (g : w.grownBy w' none) : RetInts w l (.returned (.slice A n c)) w' := ⟨A, n, c, rfl, h, g⟩
/-- What a letter reads. -/
def readL (i : Ins) (c : Int) : List Int :=
  if c = 97 then [i.a] else if c = 98 then [i.b] else if c = 99 then [i.c] else if c = 108 then i.args else if c = 114 ∧ i.a ≠ -1 then [i.a] else []
def readsS (i : Ins) (l : List UInt8) : List Int := l.flatMap fun c => readL i (c.toNat : Int)
def readsI (i : Ins) : List Int := readsS i (rowL i.op)
set_option maxRecDepth 100000 in
set_option maxHeartbeats 2000000 in
theorem read_any (i : Ins) (c : Int) (w : World) (hA : IntsAt w i.aa i.an i.ac i.args) :
    Calls Tryd.prog 19 #[insV i, .int .i32 c] w fun e w' => RetInts w (readL i c) e w' := by
  have HA := Lib.hid hA
  clear hA
  unfold readL insV insC
  obtain ⟨op, a, b, cc, ww, n, sign, aa, an, ac, args⟩ := i
  dsimp only at HA ⊢
  by_cases h97 : c = 97
  · subst h97
    rw [if_pos rfl]
    go_enter Tryd.func19, Tryd.ntmps19
    go_wp2_with fail
    go_ret
    exact RetInts.mk (IntsAt.new _ [a] _ _ _ _ rfl (by simp)) (by repeat (first | with_reducible exact grownBy_refl _ _ | with_reducible assumption | with_reducible refine World.grownBy.gr_drew ?_ | with_reducible refine World.grownBy.gr_set ?_ (by simp) _ | with_reducible refine gr_alloc ?_ _))
  by_cases h98 : c = 98
  · subst h98
    rw [if_neg (by decide), if_pos rfl]
    go_enter Tryd.func19, Tryd.ntmps19
    go_wp2_with fail
    go_ret
    exact RetInts.mk (IntsAt.new _ [b] _ _ _ _ rfl (by simp)) (by repeat (first | with_reducible exact grownBy_refl _ _ | with_reducible assumption | with_reducible refine World.grownBy.gr_drew ?_ | with_reducible refine World.grownBy.gr_set ?_ (by simp) _ | with_reducible refine gr_alloc ?_ _))
  by_cases h99 : c = 99
  · subst h99
    rw [if_neg (by decide), if_neg (by decide), if_pos rfl]
    go_enter Tryd.func19, Tryd.ntmps19
    go_wp2_with fail
    go_ret
    exact RetInts.mk (IntsAt.new _ [cc] _ _ _ _ rfl (by simp)) (by repeat (first | with_reducible exact grownBy_refl _ _ | with_reducible assumption | with_reducible refine World.grownBy.gr_drew ?_ | with_reducible refine World.grownBy.gr_set ?_ (by simp) _ | with_reducible refine gr_alloc ?_ _))
  by_cases h108 : c = 108
  · subst h108
    rw [if_neg (by decide), if_neg (by decide), if_neg (by decide), if_pos rfl]
    go_enter Tryd.func19, Tryd.ntmps19
    go_wp2_with fail
    go_ret
    exact RetInts.mk (HA.out.keep (CellsK.alloc _ _)) (by repeat (first | with_reducible exact grownBy_refl _ _ | with_reducible assumption | with_reducible refine World.grownBy.gr_drew ?_ | with_reducible refine World.grownBy.gr_set ?_ (by simp) _ | with_reducible refine gr_alloc ?_ _))
  rw [if_neg h97, if_neg h98, if_neg h99, if_neg h108]
  by_cases h114 : c = 114
  · subst h114
    clear h97 h98 h99 h108
    by_cases ha : a = -1
    · rw [if_neg (by simp [ha])]
      subst ha
      go_enter Tryd.func19, Tryd.ntmps19
      go_wp2_with fail
      go_ret
      exact RetInts.mk (IntsAt.nil _) (by repeat (first | with_reducible exact grownBy_refl _ _ | with_reducible assumption | with_reducible refine World.grownBy.gr_drew ?_ | with_reducible refine World.grownBy.gr_set ?_ (by simp) _ | with_reducible refine gr_alloc ?_ _))
    · rw [if_pos ⟨rfl, ha⟩]
      have e1 : (a == -1) = false := by simpa using ha
      have e2 : (a != -1) = true := by simpa using ha
      clear ha
      go_enter Tryd.func19, Tryd.ntmps19
      go_wp2_with fail
      go_ret
      exact RetInts.mk (IntsAt.new _ [a] _ _ _ _ rfl (by simp)) (by repeat (first | with_reducible exact grownBy_refl _ _ | with_reducible assumption | with_reducible refine World.grownBy.gr_drew ?_ | with_reducible refine World.grownBy.gr_set ?_ (by simp) _ | with_reducible refine gr_alloc ?_ _))
  · rw [if_neg (fun h => h114 h.1)]
    have e1 : (c == 97) = false := by simpa using h97
    have e2 : (c == 98) = false := by simpa using h98
    have e3 : (c == 99) = false := by simpa using h99
    have e4 : (c == 108) = false := by simpa using h108
    have e5 : (c == 114) = false := by simpa using h114
    clear h97 h98 h99 h108 h114
    go_enter Tryd.func19, Tryd.ntmps19
    go_wp2_with fail
    go_ret
    exact RetInts.mk (IntsAt.nil _) (by repeat (first | with_reducible exact grownBy_refl _ _ | with_reducible assumption | with_reducible refine World.grownBy.gr_drew ?_ | with_reducible refine World.grownBy.gr_set ?_ (by simp) _ | with_reducible refine gr_alloc ?_ _))

end Go.Proofs.YtdknclhbnhiojaaDoor
