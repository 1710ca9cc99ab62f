/- Groups as the functions tell them, in plain words. -/
import Derived.Test.YteblcmebhfjbnaaY3
namespace Go.Proofs.Yteblcmebhfjbnaa
open Go.RowKit
def szN (n : Int) : Nat := if n < 0 then 0 else if 100000 < n then 100000 else n.toNat
def findI (g : List Nat) (i : Int) : Int := if 0 ≤ i then ((g[i.toNat]?).map fun (k : Nat) => (k : Int)).getD (-1) else -1
def joinG (g : List Nat) (a b : Int) : List Nat × Bool :=
  if findI g a < 0 ∨ findI g b < 0 ∨ findI g a = findI g b then (g, false) else (relab (min (findI g a).toNat (findI g b).toNat) (max (findI g a).toNat (findI g b).toNat) g, true)
def sizI (g : List Nat) (i : Int) : Nat := if findI g i < 0 then 0 else sizG g (findI g i).toNat
def intsN (g : List Nat) : List Int := g.map fun (k : Nat) => (k : Int)
theorem intsN_len (g : List Nat) : (intsN g).length = g.length := List.length_map _
theorem intsN_at (g : List Nat) (i : Nat) : (intsN g)[i]? = (g[i]?).map fun (k : Nat) => (k : Int) := List.getElem?_map ..
theorem findI_out {g : List Nat} {i : Int} (h : ¬ (0 ≤ i ∧ i < (g.length : Int))) : findI g i = -1 := by
  unfold findI
  by_cases h0 : 0 ≤ i
  · rw [if_pos h0, List.getElem?_eq_none (by omega)]; rfl
  · rw [if_neg h0]
theorem findI_in {g : List Nat} {i : Nat} {k : Nat} (h : g[i]? = some k) : findI g (i : Int) = (k : Int) := by
  unfold findI
  rw [if_pos (by omega), Int.toNat_natCast, h]
  rfl
theorem findI_cases (g : List Nat) (i : Int) : (¬ (0 ≤ i ∧ i < (g.length : Int)) ∧ findI g i = -1) ∨ ∃ j k : Nat, i = (j : Int) ∧ g[j]? = some k ∧ findI g i = (k : Int) := by
  by_cases h : 0 ≤ i ∧ i < (g.length : Int)
  · right
    obtain ⟨j, rfl⟩ : ∃ j : Nat, i = j := ⟨i.toNat, by omega⟩
    have hj : j < g.length := by omega
    have e := List.getElem?_eq_getElem hj
    exact ⟨j, g[j], rfl, e, findI_in e⟩
  · exact .inl ⟨h, findI_out h⟩
theorem joinG_len (g : List Nat) (a b : Int) : (joinG g a b).1.length = g.length := by
  unfold joinG
  split
  · rfl
  · exact relab_len _ _ _
theorem joinG_ok {g : List Nat} (h : GOk g) (a b : Int) : GOk (joinG g a b).1 := by
  unfold joinG
  split
  · exact h
  · rename_i hn
    rcases findI_cases g a with ⟨_, e1⟩ | ⟨i, x, rfl, g1, e1⟩
    · exact absurd (.inl (by omega)) hn
    rcases findI_cases g b with ⟨_, e2⟩ | ⟨j, y, rfl, g2, e2⟩
    · exact absurd (.inr (.inl (by omega))) hn
    rw [e1, e2] at hn ⊢
    rw [Int.toNat_natCast, Int.toNat_natCast]
    have hx := (h i x g1).2
    have hy := (h j y g2).2
    refine relab_ok h ?_ (by omega)
    rcases Nat.le_total x y with e | e
    · rw [Nat.min_eq_left e]; exact hx
    · rw [Nat.min_eq_right e]; exact hy
theorem range_at {n i : Nat} (h : i < n) : (List.range n)[i]? = some i := List.getElem?_range h

end Go.Proofs.Yteblcmebhfjbnaa
