/- Edges and marks in memory. -/
import Derived.Test.YtneehdjaaofjaaaZs
import Derived.Test.YtneehdjaaofjaaaY9
namespace Go.Proofs.Ytneehdjaaofjaaa
open Go.RowKit
def edC (e : Edg) : Array Value := #[.int .i64 e.fr, .int .i64 e.pc, .int .i64 e.to]
/-- The edges E lie in the slice at A. -/
abbrev EdsAt (w : World) (A : Option Addr) (E : List Edg) : Prop := StrAt edC 3 w A E
theorem eds_cells {w : World} {ad : Addr} {E : List Edg} {k : Nat} {e : Edg} (h : EdsAt w (some ad) E) (hk : E[k]? = some e) :
    w.cell? (ad.add (k * 3)) = some (.int .i64 e.fr) ∧ w.cell? ⟨(ad.add (k * 3)).block, (ad.add (k * 3)).off + 1, none⟩ = some (.int .i64 e.pc) ∧ w.cell? ⟨(ad.add (k * 3)).block, (ad.add (k * 3)).off + 2, none⟩ = some (.int .i64 e.to) := by
  obtain ⟨h1, h2⟩ := h.cells hk
  exact ⟨h1 _ rfl, h2 0 _ rfl, h2 1 _ rfl⟩
def boolsV (M : List Bool) : List Value := M.map fun b => Value.bool b
theorem boolsV_len (M : List Bool) : (boolsV M).length = M.length := List.length_map _
theorem boolsV_set (M : List Bool) (i : Nat) (b : Bool) : boolsV (M.set i b) = (boolsV M).set i (.bool b) := by
  unfold boolsV
  rw [List.map_set]
theorem boolsV_at {M : List Bool} {i : Nat} {b : Bool} (h : M[i]? = some b) : (boolsV M)[i]? = some (.bool b) := by
  unfold boolsV
  rw [List.getElem?_map, h]
  rfl
/-- The marks M lie in the call's own block r. -/
def MkAt (base : Nat) (W : World) (r c : Nat) (M : List Bool) : Prop := W.ownsRow base 4 1 (.slice (some ⟨r, 0, none⟩) M.length c) M.length (boolsV M)
theorem MkAt.gr {base r c : Nat} {W W' : World} {M : List Bool} (h : MkAt base W r c M) (g : W.grownBy W' none) : MkAt base W' r c M := own_gr h g
theorem MkAt.row {base r c : Nat} {W W' : World} {M : List Bool} (h : MkAt base W r c M) {o : Option Nat} (g : W.grownBy W' o) (hr : o ≠ some r) : MkAt base W' r c M := h.kept g (.inr (by
  show some r ≠ o
  exact fun e => hr e.symm))
theorem MkAt.lt {base r c : Nat} {W : World} {M : List Bool} (h : MkAt base W r c M) : base ≤ r ∧ r < W.heap.size := World.ownsRow.lt h r rfl
theorem MkAt.cell {base r c : Nat} {W : World} {M : List Bool} (h : MkAt base W r c M) {i : Nat} {b : Bool} (hi : M[i]? = some b) : W.cell? ⟨r, i, none⟩ = some (.bool b) := by
  have hl := (List.getElem?_eq_some_iff.1 hi).1
  rw [World.ownsRow.cellAt h i (by omega), boolsV_at hi]
theorem MkAt.fr {base r c : Nat} {W : World} {M : List Bool} (h : MkAt base W r c M) (i : Nat) : W.frozen? ⟨r, i, none⟩ = false := World.ownsRow.frozenAt h i
theorem MkAt.set {base r c : Nat} {W : World} {M : List Bool} (h : MkAt base W r c M) (i : Nat) (b : Bool) : MkAt base (W.setCell ⟨r, i, none⟩ (.bool b)) r c (M.set i b) ∧ W.grownBy (W.setCell ⟨r, i, none⟩ (.bool b)) (some r) := by
  obtain ⟨h1, h2⟩ := World.ownsRow.stored h i (.bool b)
  refine ⟨?_, h2⟩
  unfold MkAt
  rw [List.length_set, boolsV_set]
  exact h1
theorem infoBool : (Try.prog.info? 4).map (fun i => (i.zero, i.size, i.bytes)) = some (some (.bool false), 1, 1) := by kernel_rfl
/-- A slice of slices of marks: one for each of the first numbers. -/
def szE (n : Int) : Nat := if n < 0 then 0 else if 20000 < n then 20000 else n.toNat
theorem szE_le (n : Int) : szE n ≤ 20000 := by unfold szE; split <;> (try split) <;> omega

end Go.Proofs.Ytneehdjaaofjaaa
