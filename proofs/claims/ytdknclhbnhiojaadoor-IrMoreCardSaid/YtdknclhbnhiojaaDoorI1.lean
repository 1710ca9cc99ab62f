/- ir: the table of rows; within, row. -/
import Derived.Test.YtdknclhbnhiojaaDoorChecked
import Derived.WalkKit
import Derived.WalkSpells
import Derived.WalkLawsBesides
import Derived.Outline
import Derived.RegionTactic
import Derived.BigRegion
import Derived.WalkSmall
import Derived.Lib.Hide
import Derived.OwnWalk
import Derived.Laws.OwnMore
import Derived.Below
import Derived.OneCell
namespace Go.Proofs.YtdknclhbnhiojaaDoor
open Go.RowKit
/-- The table, op by op. -/
def rowsT : List (List UInt8) := [[], [61], [61, 115], [98, 61], [98, 99, 61], [98, 99, 61, 50], [98, 61, 49], [98, 61, 119], [98, 61, 119], [97, 98, 119], [97, 98, 110], [97, 98, 99], [97, 98, 99], [98, 61, 104], [97], [108, 61, 102], [98, 108, 61, 54], [106], [97, 106], [114], [61]]
def rowsC : Array Value := (rowsT.map fun l => Value.string ⟨l.toArray⟩).toArray
/-- What the row's list gives: the table of rows. -/
def VarsR (w : World) : Prop := ∃ t fr, w.heap[0]? = some (.cells rowsC t fr)
def rowL (op : Int) : List UInt8 := if 0 ≤ op ∧ op < 21 then rowsT[op.toNat]?.getD [] else []
def rowB (op : Int) : ByteArray := ⟨(rowL op).toArray⟩
theorem rowL_out {op : Int} (h : ¬ (0 ≤ op ∧ op < 21)) : rowL op = [] := by unfold rowL; rw [if_neg h]
theorem op_cases {op : Int} (h : 0 ≤ op) (h' : op < 21) : op = 0 ∨ op = 1 ∨ op = 2 ∨ op = 3 ∨ op = 4 ∨ op = 5 ∨ op = 6 ∨ op = 7 ∨ op = 8 ∨ op = 9 ∨ op = 10 ∨ op = 11 ∨ op = 12 ∨ op = 13 ∨ op = 14 ∨ op = 15 ∨ op = 16 ∨ op = 17 ∨ op = 18 ∨ op = 19 ∨ op = 20 := by omega
theorem rows_cell {w : World} (h : VarsR w) {op : Int} (h0 : 0 ≤ op) (h1 : op < 21) : w.cell? ⟨0, op.toNat, none⟩ = some (.string (rowB op)) := by
  obtain ⟨t, fr, h⟩ := h
  rw [cell_of_row w 0 _ _ _ _ h]
  rcases op_cases h0 h1 with rfl | rfl | rfl | rfl | rfl | rfl | rfl | rfl | rfl | rfl | rfl | rfl | rfl | rfl | rfl | rfl | rfl | rfl | rfl | rfl | rfl
  all_goals rfl
theorem grownBy_refl (w : World) (r : Option Nat) : w.grownBy w r := ⟨rfl, rfl, rfl, Nat.le_refl _, fun _ _ _ => rfl⟩
theorem grownBy_trans {a b c : World} {r : Option Nat} (h : a.grownBy b r) (k : b.grownBy c r) : a.grownBy c r :=
  ⟨k.os.trans h.os, k.tape.trans h.tape, k.output.trans h.output, Nat.le_trans h.size k.size, fun i hi hn => (k.block i (Nat.lt_of_lt_of_le hi h.size) hn).trans (h.block i hi hn)⟩
theorem gr_alloc {a b : World} {r : Option Nat} (h : a.grownBy b r) (o : Obj) : a.grownBy (b.alloc o) r :=
  ⟨h.os, h.tape, h.output, Nat.le_trans h.size (by simp), fun k hk hn => (Below.heap_alloc _ _ _ (Nat.lt_of_lt_of_le hk h.size)).trans (h.block k hk hn)⟩
theorem _root_.Go.World.grownBy.gr_drew {a b : World} {r : Option Nat} (h : a.grownBy b r) : a.grownBy b.drew r := ⟨h.os, h.tape, h.output, h.size, h.block⟩
theorem _root_.Go.World.grownBy.gr_set {a b : World} {r : Option Nat} (h : a.grownBy b r) {p : Addr} (hp : a.heap.size ≤ p.block) (v : Value) : a.grownBy (b.setCell p v) r :=
  ⟨h.os, h.tape, h.output, by rw [show (b.setCell p v).heap.size = b.heap.size by simp [World.setCell]]; exact h.size, fun k hk hn => (Below.heap_setCell _ _ _ _ (by omega)).trans (h.block k hk hn)⟩
theorem lt_of_heap {w : World} {b : Nat} {o : Obj} (h : w.heap[b]? = some o) : b < w.heap.size := (Array.getElem?_eq_some_iff.1 h).1
theorem VarsR.grown {w w' : World} (h : VarsR w) (g : w.grownBy w' none) : VarsR w' := by
  obtain ⟨t, fr, h⟩ := h
  exact ⟨t, fr, by rw [g.block _ (lt_of_heap h) (by simp)]; exact h⟩
theorem VarsR.grownB {w w' : World} {r : Option Nat} (h : VarsR w) (g : w.grownBy w' r) (hr : r ≠ some 0) : VarsR w' := by
  obtain ⟨t, fr, h⟩ := h
  exact ⟨t, fr, by rw [g.block _ (lt_of_heap h) (fun e => hr e.symm)]; exact h⟩
theorem VarsR.alloc {w : World} (h : VarsR w) (o : Obj) : VarsR (w.alloc o) := h.grown (gr_alloc (grownBy_refl _ _) o)
theorem VarsR.pos {w : World} (h : VarsR w) : 0 < w.heap.size := by obtain ⟨t, fr, h⟩ := h; exact lt_of_heap h
/-- Is n an index of a list of m? -/
def inB (n m : Int) : Bool := decide (0 ≤ n ∧ n < m)
set_option maxRecDepth 100000 in
set_option maxHeartbeats 2000000 in
theorem within_any (n m : Int) (w : World) :
    Calls Tryd.prog 22 #[.int .i64 n, .int .i64 m] w fun e w' => e = .returned (.bool (inB n m)) ∧ w = w' := by
  by_cases h0 : 0 ≤ n
  · by_cases h1 : n < m
    · rw [show inB n m = true by unfold inB; simp [h0, h1]]
      go_enter Tryd.func22, Tryd.ntmps22
      go_wp2_with fail
      go_ret
      exact ⟨rfl, rfl⟩
    · rw [show inB n m = false by unfold inB; simp; omega]
      go_enter Tryd.func22, Tryd.ntmps22
      go_wp2_with fail
      go_ret
      exact ⟨rfl, rfl⟩
  · rw [show inB n m = false by unfold inB; simp; omega]
    go_enter Tryd.func22, Tryd.ntmps22
    go_wp2_with fail
    go_ret
    exact ⟨rfl, rfl⟩
set_option maxRecDepth 100000 in
set_option maxHeartbeats 2000000 in
theorem within64_any (n m : Int) (w : World) :
    Calls Tryd.prog 34 #[.int .i64 n, .int .i64 m] w fun e w' => e = .returned (.bool (inB n m)) ∧ w = w' := by
  by_cases h0 : 0 ≤ n
  · by_cases h1 : n < m
    · rw [show inB n m = true by unfold inB; simp [h0, h1]]
      go_enter Tryd.func34, Tryd.ntmps34
      go_wp2_with fail
      go_ret
      exact ⟨rfl, rfl⟩
    · rw [show inB n m = false by unfold inB; simp; omega]
      go_enter Tryd.func34, Tryd.ntmps34
      go_wp2_with fail
      go_ret
      exact ⟨rfl, rfl⟩
  · rw [show inB n m = false by unfold inB; simp; omega]
    go_enter Tryd.func34, Tryd.ntmps34
    go_wp2_with fail
    go_ret
    exact ⟨rfl, rfl⟩
set_option maxRecDepth 100000 in
set_option maxHeartbeats 2000000 in
theorem row_any (op : Int) (w : World) (hv : VarsR w) :
    Calls Tryd.prog 18 #[.int .i64 op] w fun e w' => e = .returned (.string (rowB op)) ∧ w = w' := by
  by_cases h : 0 ≤ op ∧ op < 21
  · have hin : inB op 21 = true := by unfold inB; simpa using h
    have hc := rows_cell hv h.1 h.2
    have hp := hv.pos
    have h0 := h.1
    have h1 := h.2
    have g0 : decide (op < 0) = false := by simp; omega
    have g1 : decide (21 ≤ op) = false := by simp; omega
    have HI := Lib.hid hin
    generalize rowB op = s at *
    clear h hv hin
    go_enter Tryd.func18, Tryd.ntmps18
    go_wp2_with fail
    refine (within_any _ _ _).mono ?_
    rintro e w1 ⟨rfl, rfl⟩
    rw [HI.out]
    go_wp2_with fail
    go_ret
    exact ⟨rfl, rfl⟩
  · have hin : inB op 21 = false := by unfold inB; simp; omega
    have HI := Lib.hid hin
    rw [show rowB op = ⟨#[]⟩ by unfold rowB; rw [rowL_out h]]
    clear h hv hin
    go_enter Tryd.func18, Tryd.ntmps18
    go_wp2_with fail
    refine (within_any _ _ _).mono ?_
    rintro e w1 ⟨rfl, rfl⟩
    rw [HI.out]
    go_wp2_with fail
    go_ret
    exact ⟨rfl, rfl⟩

end Go.Proofs.YtdknclhbnhiojaaDoor
