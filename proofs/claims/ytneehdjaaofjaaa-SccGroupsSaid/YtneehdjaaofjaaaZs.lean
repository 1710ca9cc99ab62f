/- Rows of structs in memory. -/
import Derived.Test.YtneehdjaaofjaaaZ0
namespace Go.Proofs.Ytneehdjaaofjaaa
open Go.RowKit
/-- Structs of m cells each, one behind the other. -/
def StrAt {α : Type} (C : α → Array Value) (m : Nat) (w : World) (A : Option Addr) (l : List α) : Prop :=
  l = [] ∨ ∃ ad, A = some ad ∧ ∀ j x, l[j]? = some x → ∀ k u, (C x)[k]? = some u → w.cell? (ad.add (j * m + k)) = some u
theorem StrAt.keep {α : Type} {C : α → Array Value} {m : Nat} {w w' : World} {A : Option Addr} {l : List α} (h : StrAt C m w A l) (g : w.grownBy w' none) : StrAt C m w' A l :=
  h.imp id fun ⟨ad, e, hc⟩ => ⟨ad, e, fun j x hx i u hu => by
    have h1 := hc j x hx i u hu
    exact (World.cell?_of_block (g.block _ (World.block_lt_of_cell? w _ h1) (by simp))).trans h1⟩
theorem StrAt.some_ {α : Type} {C : α → Array Value} {m : Nat} {w : World} {A : Option Addr} {l : List α} (h : StrAt C m w A l) {k : Nat} (hk : k < l.length) : ∃ ad, A = some ad := by
  rcases h with rfl | ⟨ad, e, _⟩
  · simp at hk
  · exact ⟨ad, e⟩
theorem StrAt.take {α : Type} {C : α → Array Value} {m : Nat} {w : World} {A : Option Addr} {l : List α} (h : StrAt C m w A l) (k : Nat) : StrAt C m w A (l.take k) := by
  rcases h with rfl | ⟨ad, e, hc⟩
  · exact .inl (by simp)
  · refine .inr ⟨ad, e, fun j x hx => hc j x ?_⟩
    rw [List.getElem?_take] at hx
    split at hx
    · exact hx
    · cases hx
theorem add_pos (a : Addr) (i j : Nat) (hj : 0 < j) : a.add (i + j) = ⟨(a.add i).block, (a.add i).off + j, none⟩ := by
  unfold Addr.add
  have h1 : ¬ i + j = 0 := by omega
  by_cases hi : i = 0
  · subst hi; simp [h1]; omega
  · simp [h1, hi]; omega
theorem StrAt.cells {α : Type} {C : α → Array Value} {m : Nat} {w : World} {ad : Addr} {l : List α} {k : Nat} {x : α} (h : StrAt C m w (some ad) l) (hk : l[k]? = some x) :
    (∀ u, (C x)[0]? = some u → w.cell? (ad.add (k * m)) = some u) ∧ ∀ j u, (C x)[j + 1]? = some u → w.cell? ⟨(ad.add (k * m)).block, (ad.add (k * m)).off + (j + 1), none⟩ = some u := by
  rcases h with rfl | ⟨ad', e, hc⟩
  · simp at hk
  · injection e with e
    subst e
    exact ⟨fun u hu => hc k x hk 0 u hu, fun j u hu => by rw [← add_pos _ _ _ (by omega)]; exact hc k x hk (j + 1) u hu⟩

end Go.Proofs.Ytneehdjaaofjaaa
