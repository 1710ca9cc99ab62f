/- Merged: Q13, Q14, Q15. -/
import Derived.Test.YtkbplcfehllbjaaGreatDoorMk3
import Derived.Deep.RegionHeld2
import Derived.Deep.DrawnRows
import Derived.Defers
import Derived.Deep.RegionWith
/- field. -/
namespace Go.Proofs.YtkbplcfehllbjaaGreatDoor
open Go.RowKit
attribute [local go_sem ↓] Go.wp_at_zero Go.wp_at_succ
theorem c4_call {a b : World} {k r : Nat} {v0 v1 v2 v3 : Value} (h : a.cell? ⟨k, 0, none⟩ = some v0 ∧ a.cell? ⟨k, 1, none⟩ = some v1 ∧ a.cell? ⟨k, 2, none⟩ = some v2 ∧ a.cell? ⟨k, 3, none⟩ = some v3) (g : a.grownBy b (some r)) (hr : k ≠ r) : b.cell? ⟨k, 0, none⟩ = some v0 ∧ b.cell? ⟨k, 1, none⟩ = some v1 ∧ b.cell? ⟨k, 2, none⟩ = some v2 ∧ b.cell? ⟨k, 3, none⟩ = some v3 := by
  obtain ⟨h0, h1, h2, h3⟩ := h
  exact ⟨g.cell h0 (by simpa using hr), g.cell h1 (by simpa using hr), g.cell h2 (by simpa using hr), g.cell h3 (by simpa using hr)⟩
theorem c4_call0 {a b : World} {k : Nat} {v0 v1 v2 v3 : Value} (h : a.cell? ⟨k, 0, none⟩ = some v0 ∧ a.cell? ⟨k, 1, none⟩ = some v1 ∧ a.cell? ⟨k, 2, none⟩ = some v2 ∧ a.cell? ⟨k, 3, none⟩ = some v3) (g : a.grownBy b none) : b.cell? ⟨k, 0, none⟩ = some v0 ∧ b.cell? ⟨k, 1, none⟩ = some v1 ∧ b.cell? ⟨k, 2, none⟩ = some v2 ∧ b.cell? ⟨k, 3, none⟩ = some v3 := by
  obtain ⟨h0, h1, h2, h3⟩ := h
  exact ⟨g.cell h0 (by simp), g.cell h1 (by simp), g.cell h2 (by simp), g.cell h3 (by simp)⟩
theorem c4_alloc {a : World} {k : Nat} {v0 v1 v2 v3 : Value} (h : a.cell? ⟨k, 0, none⟩ = some v0 ∧ a.cell? ⟨k, 1, none⟩ = some v1 ∧ a.cell? ⟨k, 2, none⟩ = some v2 ∧ a.cell? ⟨k, 3, none⟩ = some v3) (o : Obj) : (a.alloc o).cell? ⟨k, 0, none⟩ = some v0 ∧ (a.alloc o).cell? ⟨k, 1, none⟩ = some v1 ∧ (a.alloc o).cell? ⟨k, 2, none⟩ = some v2 ∧ (a.alloc o).cell? ⟨k, 3, none⟩ = some v3 := c4_call0 h (gr_alloc (grownBy_refl _ _) o)
theorem c4_of {w : World} {k : Nat} {v0 v1 v2 v3 : Value} {t : TypeId} (h : w.heap[k]? = some (.cells #[v0, v1, v2, v3] t (0, 0))) : w.cell? ⟨k, 0, none⟩ = some v0 ∧ w.cell? ⟨k, 1, none⟩ = some v1 ∧ w.cell? ⟨k, 2, none⟩ = some v2 ∧ w.cell? ⟨k, 3, none⟩ = some v3 := let ⟨a, b, c, d, _⟩ := cells4_of w k _ _ _ _ _ h; ⟨a, b, c, d⟩
theorem c8_call {a b : World} {k r : Nat} {v0 v1 v2 v3 v4 v5 v6 v7 : Value} (h : a.cell? ⟨k, 0, none⟩ = some v0 ∧ a.cell? ⟨k, 1, none⟩ = some v1 ∧ a.cell? ⟨k, 2, none⟩ = some v2 ∧ a.cell? ⟨k, 3, none⟩ = some v3 ∧ a.cell? ⟨k, 4, none⟩ = some v4 ∧ a.cell? ⟨k, 5, none⟩ = some v5 ∧ a.cell? ⟨k, 6, none⟩ = some v6 ∧ a.cell? ⟨k, 7, none⟩ = some v7) (g : a.grownBy b (some r)) (hr : k ≠ r) : b.cell? ⟨k, 0, none⟩ = some v0 ∧ b.cell? ⟨k, 1, none⟩ = some v1 ∧ b.cell? ⟨k, 2, none⟩ = some v2 ∧ b.cell? ⟨k, 3, none⟩ = some v3 ∧ b.cell? ⟨k, 4, none⟩ = some v4 ∧ b.cell? ⟨k, 5, none⟩ = some v5 ∧ b.cell? ⟨k, 6, none⟩ = some v6 ∧ b.cell? ⟨k, 7, none⟩ = some v7 := by
  obtain ⟨h0, h1, h2, h3, h4, h5, h6, h7⟩ := h
  exact ⟨g.cell h0 (by simpa using hr), g.cell h1 (by simpa using hr), g.cell h2 (by simpa using hr), g.cell h3 (by simpa using hr), g.cell h4 (by simpa using hr), g.cell h5 (by simpa using hr), g.cell h6 (by simpa using hr), g.cell h7 (by simpa using hr)⟩
theorem c8_call0 {a b : World} {k : Nat} {v0 v1 v2 v3 v4 v5 v6 v7 : Value} (h : a.cell? ⟨k, 0, none⟩ = some v0 ∧ a.cell? ⟨k, 1, none⟩ = some v1 ∧ a.cell? ⟨k, 2, none⟩ = some v2 ∧ a.cell? ⟨k, 3, none⟩ = some v3 ∧ a.cell? ⟨k, 4, none⟩ = some v4 ∧ a.cell? ⟨k, 5, none⟩ = some v5 ∧ a.cell? ⟨k, 6, none⟩ = some v6 ∧ a.cell? ⟨k, 7, none⟩ = some v7) (g : a.grownBy b none) : b.cell? ⟨k, 0, none⟩ = some v0 ∧ b.cell? ⟨k, 1, none⟩ = some v1 ∧ b.cell? ⟨k, 2, none⟩ = some v2 ∧ b.cell? ⟨k, 3, none⟩ = some v3 ∧ b.cell? ⟨k, 4, none⟩ = some v4 ∧ b.cell? ⟨k, 5, none⟩ = some v5 ∧ b.cell? ⟨k, 6, none⟩ = some v6 ∧ b.cell? ⟨k, 7, none⟩ = some v7 := by
  obtain ⟨h0, h1, h2, h3, h4, h5, h6, h7⟩ := h
  exact ⟨g.cell h0 (by simp), g.cell h1 (by simp), g.cell h2 (by simp), g.cell h3 (by simp), g.cell h4 (by simp), g.cell h5 (by simp), g.cell h6 (by simp), g.cell h7 (by simp)⟩
theorem c8_alloc {a : World} {k : Nat} {v0 v1 v2 v3 v4 v5 v6 v7 : Value} (h : a.cell? ⟨k, 0, none⟩ = some v0 ∧ a.cell? ⟨k, 1, none⟩ = some v1 ∧ a.cell? ⟨k, 2, none⟩ = some v2 ∧ a.cell? ⟨k, 3, none⟩ = some v3 ∧ a.cell? ⟨k, 4, none⟩ = some v4 ∧ a.cell? ⟨k, 5, none⟩ = some v5 ∧ a.cell? ⟨k, 6, none⟩ = some v6 ∧ a.cell? ⟨k, 7, none⟩ = some v7) (o : Obj) : (a.alloc o).cell? ⟨k, 0, none⟩ = some v0 ∧ (a.alloc o).cell? ⟨k, 1, none⟩ = some v1 ∧ (a.alloc o).cell? ⟨k, 2, none⟩ = some v2 ∧ (a.alloc o).cell? ⟨k, 3, none⟩ = some v3 ∧ (a.alloc o).cell? ⟨k, 4, none⟩ = some v4 ∧ (a.alloc o).cell? ⟨k, 5, none⟩ = some v5 ∧ (a.alloc o).cell? ⟨k, 6, none⟩ = some v6 ∧ (a.alloc o).cell? ⟨k, 7, none⟩ = some v7 := c8_call0 h (gr_alloc (grownBy_refl _ _) o)
theorem c8_of {w : World} {k : Nat} {v0 v1 v2 v3 v4 v5 v6 v7 : Value} {t : TypeId} (h : w.heap[k]? = some (.cells #[v0, v1, v2, v3, v4, v5, v6, v7] t (0, 0))) : w.cell? ⟨k, 0, none⟩ = some v0 ∧ w.cell? ⟨k, 1, none⟩ = some v1 ∧ w.cell? ⟨k, 2, none⟩ = some v2 ∧ w.cell? ⟨k, 3, none⟩ = some v3 ∧ w.cell? ⟨k, 4, none⟩ = some v4 ∧ w.cell? ⟨k, 5, none⟩ = some v5 ∧ w.cell? ⟨k, 6, none⟩ = some v6 ∧ w.cell? ⟨k, 7, none⟩ = some v7 := (cells8_of w k _ _ _ _ _ _ _ _ _ h).1
theorem c4_set4 {a : World} {k b : Nat} {v0 v1 v2 v3 : Value} (h : a.cell? ⟨k, 0, none⟩ = some v0 ∧ a.cell? ⟨k, 1, none⟩ = some v1 ∧ a.cell? ⟨k, 2, none⟩ = some v2 ∧ a.cell? ⟨k, 3, none⟩ = some v3) (hb : k ≠ b) (u0 u1 u2 u3 : Value) : ((((a.setCell ⟨b, 0, none⟩ u0).setCell ⟨b, 1, none⟩ u1).setCell ⟨b, 2, none⟩ u2).setCell ⟨b, 3, none⟩ u3).cell? ⟨k, 0, none⟩ = some v0 ∧ ((((a.setCell ⟨b, 0, none⟩ u0).setCell ⟨b, 1, none⟩ u1).setCell ⟨b, 2, none⟩ u2).setCell ⟨b, 3, none⟩ u3).cell? ⟨k, 1, none⟩ = some v1 ∧ ((((a.setCell ⟨b, 0, none⟩ u0).setCell ⟨b, 1, none⟩ u1).setCell ⟨b, 2, none⟩ u2).setCell ⟨b, 3, none⟩ u3).cell? ⟨k, 2, none⟩ = some v2 ∧ ((((a.setCell ⟨b, 0, none⟩ u0).setCell ⟨b, 1, none⟩ u1).setCell ⟨b, 2, none⟩ u2).setCell ⟨b, 3, none⟩ u3).cell? ⟨k, 3, none⟩ = some v3 := by
  have e : ∀ j, ((((a.setCell ⟨b, 0, none⟩ u0).setCell ⟨b, 1, none⟩ u1).setCell ⟨b, 2, none⟩ u2).setCell ⟨b, 3, none⟩ u3).cell? ⟨k, j, none⟩ = a.cell? ⟨k, j, none⟩ := fun j => World.cell?_of_block (w := a) (a := ⟨k, j, none⟩) (by show ((((a.setCell ⟨b, 0, none⟩ u0).setCell ⟨b, 1, none⟩ u1).setCell ⟨b, 2, none⟩ u2).setCell ⟨b, 3, none⟩ u3).heap[k]? = a.heap[k]?; rw [Below.heap_setCell _ _ _ _ hb, Below.heap_setCell _ _ _ _ hb, Below.heap_setCell _ _ _ _ hb, Below.heap_setCell _ _ _ _ hb])
  rw [e, e, e, e]
  exact h
theorem c4_set8 {a : World} {k b : Nat} {v0 v1 v2 v3 : Value} (h : a.cell? ⟨k, 0, none⟩ = some v0 ∧ a.cell? ⟨k, 1, none⟩ = some v1 ∧ a.cell? ⟨k, 2, none⟩ = some v2 ∧ a.cell? ⟨k, 3, none⟩ = some v3) (hb : k ≠ b) (u0 u1 u2 u3 u4 u5 u6 u7 : Value) : ((((((((a.setCell ⟨b, 0, none⟩ u0).setCell ⟨b, 1, none⟩ u1).setCell ⟨b, 2, none⟩ u2).setCell ⟨b, 3, none⟩ u3).setCell ⟨b, 4, none⟩ u4).setCell ⟨b, 5, none⟩ u5).setCell ⟨b, 6, none⟩ u6).setCell ⟨b, 7, none⟩ u7).cell? ⟨k, 0, none⟩ = some v0 ∧ ((((((((a.setCell ⟨b, 0, none⟩ u0).setCell ⟨b, 1, none⟩ u1).setCell ⟨b, 2, none⟩ u2).setCell ⟨b, 3, none⟩ u3).setCell ⟨b, 4, none⟩ u4).setCell ⟨b, 5, none⟩ u5).setCell ⟨b, 6, none⟩ u6).setCell ⟨b, 7, none⟩ u7).cell? ⟨k, 1, none⟩ = some v1 ∧ ((((((((a.setCell ⟨b, 0, none⟩ u0).setCell ⟨b, 1, none⟩ u1).setCell ⟨b, 2, none⟩ u2).setCell ⟨b, 3, none⟩ u3).setCell ⟨b, 4, none⟩ u4).setCell ⟨b, 5, none⟩ u5).setCell ⟨b, 6, none⟩ u6).setCell ⟨b, 7, none⟩ u7).cell? ⟨k, 2, none⟩ = some v2 ∧ ((((((((a.setCell ⟨b, 0, none⟩ u0).setCell ⟨b, 1, none⟩ u1).setCell ⟨b, 2, none⟩ u2).setCell ⟨b, 3, none⟩ u3).setCell ⟨b, 4, none⟩ u4).setCell ⟨b, 5, none⟩ u5).setCell ⟨b, 6, none⟩ u6).setCell ⟨b, 7, none⟩ u7).cell? ⟨k, 3, none⟩ = some v3 := by
  have e : ∀ j, ((((((((a.setCell ⟨b, 0, none⟩ u0).setCell ⟨b, 1, none⟩ u1).setCell ⟨b, 2, none⟩ u2).setCell ⟨b, 3, none⟩ u3).setCell ⟨b, 4, none⟩ u4).setCell ⟨b, 5, none⟩ u5).setCell ⟨b, 6, none⟩ u6).setCell ⟨b, 7, none⟩ u7).cell? ⟨k, j, none⟩ = a.cell? ⟨k, j, none⟩ := fun j => World.cell?_of_block (w := a) (a := ⟨k, j, none⟩) (by show ((((((((a.setCell ⟨b, 0, none⟩ u0).setCell ⟨b, 1, none⟩ u1).setCell ⟨b, 2, none⟩ u2).setCell ⟨b, 3, none⟩ u3).setCell ⟨b, 4, none⟩ u4).setCell ⟨b, 5, none⟩ u5).setCell ⟨b, 6, none⟩ u6).setCell ⟨b, 7, none⟩ u7).heap[k]? = a.heap[k]?; rw [Below.heap_setCell _ _ _ _ hb, Below.heap_setCell _ _ _ _ hb, Below.heap_setCell _ _ _ _ hb, Below.heap_setCell _ _ _ _ hb, Below.heap_setCell _ _ _ _ hb, Below.heap_setCell _ _ _ _ hb, Below.heap_setCell _ _ _ _ hb, Below.heap_setCell _ _ _ _ hb])
  rw [e, e, e, e]
  exact h
theorem c8_set4 {a : World} {k b : Nat} {v0 v1 v2 v3 v4 v5 v6 v7 : Value} (h : a.cell? ⟨k, 0, none⟩ = some v0 ∧ a.cell? ⟨k, 1, none⟩ = some v1 ∧ a.cell? ⟨k, 2, none⟩ = some v2 ∧ a.cell? ⟨k, 3, none⟩ = some v3 ∧ a.cell? ⟨k, 4, none⟩ = some v4 ∧ a.cell? ⟨k, 5, none⟩ = some v5 ∧ a.cell? ⟨k, 6, none⟩ = some v6 ∧ a.cell? ⟨k, 7, none⟩ = some v7) (hb : k ≠ b) (u0 u1 u2 u3 : Value) : ((((a.setCell ⟨b, 0, none⟩ u0).setCell ⟨b, 1, none⟩ u1).setCell ⟨b, 2, none⟩ u2).setCell ⟨b, 3, none⟩ u3).cell? ⟨k, 0, none⟩ = some v0 ∧ ((((a.setCell ⟨b, 0, none⟩ u0).setCell ⟨b, 1, none⟩ u1).setCell ⟨b, 2, none⟩ u2).setCell ⟨b, 3, none⟩ u3).cell? ⟨k, 1, none⟩ = some v1 ∧ ((((a.setCell ⟨b, 0, none⟩ u0).setCell ⟨b, 1, none⟩ u1).setCell ⟨b, 2, none⟩ u2).setCell ⟨b, 3, none⟩ u3).cell? ⟨k, 2, none⟩ = some v2 ∧ ((((a.setCell ⟨b, 0, none⟩ u0).setCell ⟨b, 1, none⟩ u1).setCell ⟨b, 2, none⟩ u2).setCell ⟨b, 3, none⟩ u3).cell? ⟨k, 3, none⟩ = some v3 ∧ ((((a.setCell ⟨b, 0, none⟩ u0).setCell ⟨b, 1, none⟩ u1).setCell ⟨b, 2, none⟩ u2).setCell ⟨b, 3, none⟩ u3).cell? ⟨k, 4, none⟩ = some v4 ∧ ((((a.setCell ⟨b, 0, none⟩ u0).setCell ⟨b, 1, none⟩ u1).setCell ⟨b, 2, none⟩ u2).setCell ⟨b, 3, none⟩ u3).cell? ⟨k, 5, none⟩ = some v5 ∧ ((((a.setCell ⟨b, 0, none⟩ u0).setCell ⟨b, 1, none⟩ u1).setCell ⟨b, 2, none⟩ u2).setCell ⟨b, 3, none⟩ u3).cell? ⟨k, 6, none⟩ = some v6 ∧ ((((a.setCell ⟨b, 0, none⟩ u0).setCell ⟨b, 1, none⟩ u1).setCell ⟨b, 2, none⟩ u2).setCell ⟨b, 3, none⟩ u3).cell? ⟨k, 7, none⟩ = some v7 := by
  have e : ∀ j, ((((a.setCell ⟨b, 0, none⟩ u0).setCell ⟨b, 1, none⟩ u1).setCell ⟨b, 2, none⟩ u2).setCell ⟨b, 3, none⟩ u3).cell? ⟨k, j, none⟩ = a.cell? ⟨k, j, none⟩ := fun j => World.cell?_of_block (w := a) (a := ⟨k, j, none⟩) (by show ((((a.setCell ⟨b, 0, none⟩ u0).setCell ⟨b, 1, none⟩ u1).setCell ⟨b, 2, none⟩ u2).setCell ⟨b, 3, none⟩ u3).heap[k]? = a.heap[k]?; rw [Below.heap_setCell _ _ _ _ hb, Below.heap_setCell _ _ _ _ hb, Below.heap_setCell _ _ _ _ hb, Below.heap_setCell _ _ _ _ hb])
  rw [e, e, e, e, e, e, e, e]
  exact h
theorem c8_set8 {a : World} {k b : Nat} {v0 v1 v2 v3 v4 v5 v6 v7 : Value} (h : a.cell? ⟨k, 0, none⟩ = some v0 ∧ a.cell? ⟨k, 1, none⟩ = some v1 ∧ a.cell? ⟨k, 2, none⟩ = some v2 ∧ a.cell? ⟨k, 3, none⟩ = some v3 ∧ a.cell? ⟨k, 4, none⟩ = some v4 ∧ a.cell? ⟨k, 5, none⟩ = some v5 ∧ a.cell? ⟨k, 6, none⟩ = some v6 ∧ a.cell? ⟨k, 7, none⟩ = some v7) (hb : k ≠ b) (u0 u1 u2 u3 u4 u5 u6 u7 : Value) : ((((((((a.setCell ⟨b, 0, none⟩ u0).setCell ⟨b, 1, none⟩ u1).setCell ⟨b, 2, none⟩ u2).setCell ⟨b, 3, none⟩ u3).setCell ⟨b, 4, none⟩ u4).setCell ⟨b, 5, none⟩ u5).setCell ⟨b, 6, none⟩ u6).setCell ⟨b, 7, none⟩ u7).cell? ⟨k, 0, none⟩ = some v0 ∧ ((((((((a.setCell ⟨b, 0, none⟩ u0).setCell ⟨b, 1, none⟩ u1).setCell ⟨b, 2, none⟩ u2).setCell ⟨b, 3, none⟩ u3).setCell ⟨b, 4, none⟩ u4).setCell ⟨b, 5, none⟩ u5).setCell ⟨b, 6, none⟩ u6).setCell ⟨b, 7, none⟩ u7).cell? ⟨k, 1, none⟩ = some v1 ∧ ((((((((a.setCell ⟨b, 0, none⟩ u0).setCell ⟨b, 1, none⟩ u1).setCell ⟨b, 2, none⟩ u2).setCell ⟨b, 3, none⟩ u3).setCell ⟨b, 4, none⟩ u4).setCell ⟨b, 5, none⟩ u5).setCell ⟨b, 6, none⟩ u6).setCell ⟨b, 7, none⟩ u7).cell? ⟨k, 2, none⟩ = some v2 ∧ ((((((((a.setCell ⟨b, 0, none⟩ u0).setCell ⟨b, 1, none⟩ u1).setCell ⟨b, 2, none⟩ u2).setCell ⟨b, 3, none⟩ u3).setCell ⟨b, 4, none⟩ u4).setCell ⟨b, 5, none⟩ u5).setCell ⟨b, 6, none⟩ u6).setCell ⟨b, 7, none⟩ u7).cell? ⟨k, 3, none⟩ = some v3 ∧ ((((((((a.setCell ⟨b, 0, none⟩ u0).setCell ⟨b, 1, none⟩ u1).setCell ⟨b, 2, none⟩ u2).setCell ⟨b, 3, none⟩ u3).setCell ⟨b, 4, none⟩ u4).setCell ⟨b, 5, none⟩ u5).setCell ⟨b, 6, none⟩ u6).setCell ⟨b, 7, none⟩ u7).cell? ⟨k, 4, none⟩ = some v4 ∧ ((((((((a.setCell ⟨b, 0, none⟩ u0).setCell ⟨b, 1, none⟩ u1).setCell ⟨b, 2, none⟩ u2).setCell ⟨b, 3, none⟩ u3).setCell ⟨b, 4, none⟩ u4).setCell ⟨b, 5, none⟩ u5).setCell ⟨b, 6, none⟩ u6).setCell ⟨b, 7, none⟩ u7).cell? ⟨k, 5, none⟩ = some v5 ∧ ((((((((a.setCell ⟨b, 0, none⟩ u0).setCell ⟨b, 1, none⟩ u1).setCell ⟨b, 2, none⟩ u2).setCell ⟨b, 3, none⟩ u3).setCell ⟨b, 4, none⟩ u4).setCell ⟨b, 5, none⟩ u5).setCell ⟨b, 6, none⟩ u6).setCell ⟨b, 7, none⟩ u7).cell? ⟨k, 6, none⟩ = some v6 ∧ ((((((((a.setCell ⟨b, 0, none⟩ u0).setCell ⟨b, 1, none⟩ u1).setCell ⟨b, 2, none⟩ u2).setCell ⟨b, 3, none⟩ u3).setCell ⟨b, 4, none⟩ u4).setCell ⟨b, 5, none⟩ u5).setCell ⟨b, 6, none⟩ u6).setCell ⟨b, 7, none⟩ u7).cell? ⟨k, 7, none⟩ = some v7 := by
  have e : ∀ j, ((((((((a.setCell ⟨b, 0, none⟩ u0).setCell ⟨b, 1, none⟩ u1).setCell ⟨b, 2, none⟩ u2).setCell ⟨b, 3, none⟩ u3).setCell ⟨b, 4, none⟩ u4).setCell ⟨b, 5, none⟩ u5).setCell ⟨b, 6, none⟩ u6).setCell ⟨b, 7, none⟩ u7).cell? ⟨k, j, none⟩ = a.cell? ⟨k, j, none⟩ := fun j => World.cell?_of_block (w := a) (a := ⟨k, j, none⟩) (by show ((((((((a.setCell ⟨b, 0, none⟩ u0).setCell ⟨b, 1, none⟩ u1).setCell ⟨b, 2, none⟩ u2).setCell ⟨b, 3, none⟩ u3).setCell ⟨b, 4, none⟩ u4).setCell ⟨b, 5, none⟩ u5).setCell ⟨b, 6, none⟩ u6).setCell ⟨b, 7, none⟩ u7).heap[k]? = a.heap[k]?; rw [Below.heap_setCell _ _ _ _ hb, Below.heap_setCell _ _ _ _ hb, Below.heap_setCell _ _ _ _ hb, Below.heap_setCell _ _ _ _ hb, Below.heap_setCell _ _ _ _ hb, Below.heap_setCell _ _ _ _ hb, Below.heap_setCell _ _ _ _ hb, Below.heap_setCell _ _ _ _ hb])
  rw [e, e, e, e, e, e, e, e]
  exact h
theorem c8_drew {a : World} {k : Nat} {v0 v1 v2 v3 v4 v5 v6 v7 : Value} (h : a.cell? ⟨k, 0, none⟩ = some v0 ∧ a.cell? ⟨k, 1, none⟩ = some v1 ∧ a.cell? ⟨k, 2, none⟩ = some v2 ∧ a.cell? ⟨k, 3, none⟩ = some v3 ∧ a.cell? ⟨k, 4, none⟩ = some v4 ∧ a.cell? ⟨k, 5, none⟩ = some v5 ∧ a.cell? ⟨k, 6, none⟩ = some v6 ∧ a.cell? ⟨k, 7, none⟩ = some v7) : a.drew.cell? ⟨k, 0, none⟩ = some v0 ∧ a.drew.cell? ⟨k, 1, none⟩ = some v1 ∧ a.drew.cell? ⟨k, 2, none⟩ = some v2 ∧ a.drew.cell? ⟨k, 3, none⟩ = some v3 ∧ a.drew.cell? ⟨k, 4, none⟩ = some v4 ∧ a.drew.cell? ⟨k, 5, none⟩ = some v5 ∧ a.drew.cell? ⟨k, 6, none⟩ = some v6 ∧ a.drew.cell? ⟨k, 7, none⟩ = some v7 := h
theorem RepK.one {w : World} {S : Nat → Prop} {n : Nd} {ofv kv : Value} {L : Nat} (h : RepOf w S ofv n.typ.of) (hk : RepK w S kv n.kids)
    (hb : w.heap[L]? = some (.cells #[.int .i64 n.kind, .string ⟨n.text.toArray⟩, .int .i64 n.num, .int .i64 n.typ.kind, .int .i64 n.typ.num, .string ⟨n.typ.name.toArray⟩, ofv, kv] 28 (0, 0))) (hS : S L) :
    RepK w S (.slice (some ⟨L, 0, none⟩) 1 1) [n] :=
  ⟨ndC n ofv kv, ⟨rfl, .inr ⟨L, 1, _, rfl, Nat.zero_le _, hb, Nat.le_refl _, by unfold maxLen; omega, rfl, rfl⟩⟩, fun g hg => by simp [Value.ownBlock] at hg; subst hg; exact hS, ⟨ndC n ofv kv, [], by simp, RepN.of h hk, rfl⟩⟩
def FieldPost (C : Ctx) (S : Nat → Prop) (w : World) (d : Nat) (r : PR Nd) : Ending → World → Prop := Out C w d r (fun n w' v => ∃ ofv kv, v = ndV n ofv kv ∧ RepOf w' (Su S w.heap.size) ofv n.typ.of ∧ RepK w' (Su S w.heap.size) kv n.kids)
set_option maxRecDepth 100000 in
set_option maxHeartbeats 400000 in
theorem field_any (k : Int) (n : Nd) (ofv kv : Value) (B : Nat) (X : List Nat) (C : Ctx) (hbB : C.bp < B) (w : World) (i d : Nat) (h : Pr C w i d) (hl : i + 1 < C.toks.length) (hB : B ≤ w.heap.size) (hX : ∀ x ∈ X, x < w.heap.size)
    (h1 : RepOf w (Sx B X) ofv n.typ.of) (h2 : RepK w (Sx B X) kv n.kids) :
    Calls Tryz.prog 120 #[C.p, .int .i64 k, ndV n ofv kv] w (FieldPost C (Sx B X) w d ((nameP (C.toks.drop (i + 1))).bind fun nm r => .ok (.mk k nm 0 Ty.none [n]) r)) := by
  obtain ⟨sa, sn, sc, rfl⟩ := h1.isSlice
  obtain ⟨ka, kn, kc, rfl⟩ := h2.isSlice
  have HP := Lib.hid h.at
  have H1 := Lib.hid (show RepOf w (Sx B ((w.heap.size + 1) :: X)) _ _ from h1.mono (fun g hs hl => ⟨hs.1, by simp; exact ⟨by omega, hs.2⟩⟩) (fun _ _ _ => rfl))
  have H2 := Lib.hid (show RepK w (Sx B ((w.heap.size + 1) :: X)) _ _ from h2.mono (fun g hs hl => ⟨hs.1, by simp; exact ⟨by omega, hs.2⟩⟩) (fun _ _ _ => rfl))
  have HX := Lib.hid hX
  have hbp := lt_of_heap h.blk
  have hlen := h.len
  obtain ⟨_, c1, _, _, _, f1, _, _⟩ := cells4_of w C.bp _ _ _ _ _ h.blk
  have hp : C.p = .pointer (some ⟨C.bp, 0, none⟩) := rfl
  have HN := Lib.hid (fun w' (h' : Pr C w' (i + 1) d) => name_any C w' (i + 1) d h')
  generalize nameP (C.toks.drop (i + 1)) = R0 at HN ⊢
  clear h h1 h2 hX
  unfold ndV
  go_enter Tryz.func120, Tryz.ntmps120
  go_wp2_with fail
  have HA := Lib.hid (((HP.out.next hl (v := (i : Int) + 1) (by omega)).alloc (.cells #[.int .i64 n.kind, .string ⟨n.text.toArray⟩, .int .i64 n.num, .int .i64 n.typ.kind, .int .i64 n.typ.num, .string ⟨n.typ.name.toArray⟩, .slice sa sn sc, .slice ka kn kc] 28)).alloc (.cells #[.int .i64 0, .string ⟨#[]⟩, .int .i64 0, .int .i64 0, .int .i64 0, .string ⟨#[]⟩, .slice none 0 0, .slice none 0 0] 28))
  have B1 := Lib.hid (blk_alloc (blk_new' w (.cells #[.int .i64 n.kind, .string ⟨n.text.toArray⟩, .int .i64 n.num, .int .i64 n.typ.kind, .int .i64 n.typ.num, .string ⟨n.typ.name.toArray⟩, .slice sa sn sc, .slice ka kn kc] 28) ⟨C.bp, 1, none⟩ (.int .i64 ((i : Int) + 1))) (.cells #[.int .i64 0, .string ⟨#[]⟩, .int .i64 0, .int .i64 0, .int .i64 0, .string ⟨#[]⟩, .slice none 0 0, .slice none 0 0] 28))
  have B2 := Lib.hid (blk_new ((w.setCell ⟨C.bp, 1, none⟩ (.int .i64 ((i : Int) + 1))).alloc (.cells #[.int .i64 n.kind, .string ⟨n.text.toArray⟩, .int .i64 n.num, .int .i64 n.typ.kind, .int .i64 n.typ.num, .string ⟨n.typ.name.toArray⟩, .slice sa sn sc, .slice ka kn kc] 28)) (.cells #[.int .i64 0, .string ⟨#[]⟩, .int .i64 0, .int .i64 0, .int .i64 0, .string ⟨#[]⟩, .slice none 0 0, .slice none 0 0] 28))
  rw [show (((w.setCell ⟨C.bp, 1, none⟩ (.int .i64 ((i : Int) + 1))).alloc (.cells #[.int .i64 n.kind, .string ⟨n.text.toArray⟩, .int .i64 n.num, .int .i64 n.typ.kind, .int .i64 n.typ.num, .string ⟨n.typ.name.toArray⟩, .slice sa sn sc, .slice ka kn kc] 28)).heap.size) = w.heap.size + 1 by simp] at B2
  have K0 := Lib.hid (((Kept.refl (Sx B ((w.heap.size + 1) :: X)) w).setLow (p := ⟨C.bp, 1, none⟩) hbB (.int .i64 ((i : Int) + 1))).alloc (.cells #[.int .i64 n.kind, .string ⟨n.text.toArray⟩, .int .i64 n.num, .int .i64 n.typ.kind, .int .i64 n.typ.num, .string ⟨n.typ.name.toArray⟩, .slice sa sn sc, .slice ka kn kc] 28) |>.alloc (.cells #[.int .i64 0, .string ⟨#[]⟩, .int .i64 0, .int .i64 0, .int .i64 0, .string ⟨#[]⟩, .slice none 0 0, .slice none 0 0] 28))
  have hsz : (((w.setCell ⟨C.bp, 1, none⟩ (.int .i64 ((i : Int) + 1))).alloc (.cells #[.int .i64 n.kind, .string ⟨n.text.toArray⟩, .int .i64 n.num, .int .i64 n.typ.kind, .int .i64 n.typ.num, .string ⟨n.typ.name.toArray⟩, .slice sa sn sc, .slice ka kn kc] 28)).alloc (.cells #[.int .i64 0, .string ⟨#[]⟩, .int .i64 0, .int .i64 0, .int .i64 0, .string ⟨#[]⟩, .slice none 0 0, .slice none 0 0] 28)).heap.size = w.heap.size + 2 := by simp
  have hszl : w.heap.size + 1 < (((w.setCell ⟨C.bp, 1, none⟩ (.int .i64 ((i : Int) + 1))).alloc (.cells #[.int .i64 n.kind, .string ⟨n.text.toArray⟩, .int .i64 n.num, .int .i64 n.typ.kind, .int .i64 n.typ.num, .string ⟨n.typ.name.toArray⟩, .slice sa sn sc, .slice ka kn kc] 28)).alloc (.cells #[.int .i64 0, .string ⟨#[]⟩, .int .i64 0, .int .i64 0, .int .i64 0, .string ⟨#[]⟩, .slice none 0 0, .slice none 0 0] 28)).heap.size := by omega
  clear hsz
  generalize (((w.setCell ⟨C.bp, 1, none⟩ (.int .i64 ((i : Int) + 1))).alloc (.cells #[.int .i64 n.kind, .string ⟨n.text.toArray⟩, .int .i64 n.num, .int .i64 n.typ.kind, .int .i64 n.typ.num, .string ⟨n.typ.name.toArray⟩, .slice sa sn sc, .slice ka kn kc] 28)).alloc (.cells #[.int .i64 0, .string ⟨#[]⟩, .int .i64 0, .int .i64 0, .int .i64 0, .string ⟨#[]⟩, .slice none 0 0, .slice none 0 0] 28)) = W at *
  have hne : w.heap.size ≠ C.bp := by omega
  have hneL : w.heap.size ≠ w.heap.size + 1 := by omega
  have hL0 : w.heap.size < w.heap.size + 1 := by omega
  generalize hLL : w.heap.size + 1 = L at *
  have HL := Lib.hid hLL
  clear hLL
  have C8 := Lib.hid (c8_of B1.out)
  clear c1 f1
  go_region_held2 (fun w' => w'.cell? ⟨w.heap.size, 0, none⟩ = some (.int .i64 n.kind) ∧ w'.cell? ⟨w.heap.size, 1, none⟩ = some (.string ⟨n.text.toArray⟩) ∧ w'.cell? ⟨w.heap.size, 2, none⟩ = some (.int .i64 n.num) ∧ w'.cell? ⟨w.heap.size, 3, none⟩ = some (.int .i64 n.typ.kind) ∧ w'.cell? ⟨w.heap.size, 4, none⟩ = some (.int .i64 n.typ.num) ∧ w'.cell? ⟨w.heap.size, 5, none⟩ = some (.string ⟨n.typ.name.toArray⟩) ∧ w'.cell? ⟨w.heap.size, 6, none⟩ = some (.slice sa sn sc) ∧ w'.cell? ⟨w.heap.size, 7, none⟩ = some (.slice ka kn kc))
    (first | with_reducible exact c8_drew C8.out | with_reducible exact c8_drew (c8_alloc C8.out _) | with_reducible exact HS1.out | with_reducible exact c8_alloc HS1.out _ | with_reducible exact c8_set8 HS1.out hneL _ _ _ _ _ _ _ _ | with_reducible exact c8_alloc (c8_set8 HS1.out hneL _ _ _ _ _ _ _ _) _)
    (first | (go_at_call 69; (first
      | (refine (HN.out _ HA.out.drew.pr).mono ?_; rcases R0 with ⟨nm, r⟩ | ⟨p, er⟩; rotate_left; (rintro e w1 ⟨hg, i1, d1, rfl, hdd, hp1⟩; exact ⟨rfl, (HA.out.drew.turn hg hp1).errOut rfl⟩); rintro e w1 ⟨hg, v1, i1, rfl, hv, hp1, hd1⟩; obtain rfl : v1 = .string ⟨nm.toArray⟩ := hv; have HS1 := Lib.hid (c8_call (c8_drew C8.out) hg hne); have HF := Lib.hid (And.intro (HA.out.drew.turn hg hp1) (And.intro hd1 ((K0.out.drew).call hg hbB))); obtain ⟨⟨z0, z1, z2, z3, z4, z5, z6, z7⟩, e0, e1, e2, e3, e4, e5, e6, e7⟩ := cells8_of w1 L _ _ _ _ _ _ _ _ _ (blk_call (a := W.drew) B2.out hg (by simp; omega)); have hz1 := hg.size; simp at hz1; have hz2 : L < w1.heap.size := (by omega))
      | (refine (HN.out _ ((HA.out.alloc _).drew).pr).mono ?_; rcases R0 with ⟨nm, r⟩ | ⟨p, er⟩; rotate_left; (rintro e w1 ⟨hg, i1, d1, rfl, hdd, hp1⟩; exact ⟨rfl, (((HA.out.alloc _).drew).turn hg hp1).errOut rfl⟩); rintro e w1 ⟨hg, v1, i1, rfl, hv, hp1, hd1⟩; obtain rfl : v1 = .string ⟨nm.toArray⟩ := hv; have HS1 := Lib.hid (c8_call (c8_drew (c8_alloc C8.out _)) hg hne); have HF := Lib.hid (And.intro (((HA.out.alloc _).drew).turn hg hp1) (And.intro hd1 (And.intro (blk_call (blk_new W _) (undrew hg) (by simp; omega)) ((K0.out.alloc _).drew.call hg hbB)))); obtain ⟨⟨z0, z1, z2, z3, z4, z5, z6, z7⟩, e0, e1, e2, e3, e4, e5, e6, e7⟩ := cells8_of w1 L _ _ _ _ _ _ _ _ _ (blk_call (blk_alloc (a := W) B2.out _) (undrew hg) (by simp; omega)); have hz1 := hg.size; simp at hz1; have hz2 : L < w1.heap.size := (by omega)))))
  · have HG := Lib.hid hg
    clear hg hp1
    go_wp2_with fail
    refine bodyPost_ret (v := ndV (.mk k nm 0 Ty.none [n]) (.slice none 0 0) (.slice (some ⟨w1.heap.size, 0, none⟩) 1 1)) (by simp [results, Tryz.results120, go_sem, z0, z1, z2, z3, z4, z5, z6, z7, hz2]; rfl) rfl ?_
    have K := ((HF.out.2.2).set8 (b := L) (by simp) (.int .i64 k) (.string ⟨nm.toArray⟩) (.int .i64 0) (.int .i64 0) (.int .i64 0) (.string ⟨#[]⟩) (.slice none 0 0) (.slice (some ⟨w1.heap.size, 0, none⟩) 1 1)).alloc (.cells #[.int .i64 n.kind, .string ⟨n.text.toArray⟩, .int .i64 n.num, .int .i64 n.typ.kind, .int .i64 n.typ.num, .string ⟨n.typ.name.toArray⟩, .slice sa sn sc, .slice ka kn kc] 28)
    refine At.okOut ((HF.out.1.set8 (by have := HL.out; omega) _ _ _ _ _ _ _ _).alloc _) rfl ⟨_, _, rfl, RepOf.nil _ _, RepK.one ((H1.out.kept K).mono (fun g hs _ => .inl ⟨hs.1, fun hg => hs.2 (by simp [hg])⟩) (fun _ _ _ => rfl)) ((H2.out.kept K).mono (fun g hs _ => .inl ⟨hs.1, fun hg => hs.2 (by simp [hg])⟩) (fun _ _ _ => rfl)) ?_ (.inr (by omega))⟩ HF.out.2.1
    have := blk_new (w1.setCell ⟨L, 0, none⟩ (.int .i64 k) |>.setCell ⟨L, 1, none⟩ (.string ⟨nm.toArray⟩) |>.setCell ⟨L, 2, none⟩ (.int .i64 0) |>.setCell ⟨L, 3, none⟩ (.int .i64 0) |>.setCell ⟨L, 4, none⟩ (.int .i64 0) |>.setCell ⟨L, 5, none⟩ (.string ⟨#[]⟩) |>.setCell ⟨L, 6, none⟩ (.slice none 0 0) |>.setCell ⟨L, 7, none⟩ (.slice (some ⟨w1.heap.size, 0, none⟩) 1 1)) (.cells #[.int .i64 n.kind, .string ⟨n.text.toArray⟩, .int .i64 n.num, .int .i64 n.typ.kind, .int .i64 n.typ.num, .string ⟨n.typ.name.toArray⟩, .slice sa sn sc, .slice ka kn kc] 28)
    simpa using this
  · have HG := Lib.hid hg
    clear hg hp1
    go_wp2_with fail
    refine bodyPost_ret (v := ndV (.mk k nm 0 Ty.none [n]) (.slice none 0 0) (.slice (some ⟨W.heap.size, 0, none⟩) 1 1)) (by simp [results, Tryz.results120, go_sem, z0, z1, z2, z3, z4, z5, z6, z7]; rfl) rfl ?_
    have K := ((HF.out.2.2.2).set8 (b := L) (by simp) (.int .i64 k) (.string ⟨nm.toArray⟩) (.int .i64 0) (.int .i64 0) (.int .i64 0) (.string ⟨#[]⟩) (.slice none 0 0) (.slice (some ⟨W.heap.size, 0, none⟩) 1 1))
    have HLo := HL.out
    refine At.okOut (HF.out.1.set8 (by omega) _ _ _ _ _ _ _ _) rfl ⟨_, _, rfl, RepOf.nil _ _, RepK.one ((H1.out.kept K).mono (fun g hs _ => .inl ⟨hs.1, fun hg => hs.2 (by simp [hg])⟩) (fun _ _ _ => rfl)) ((H2.out.kept K).mono (fun g hs _ => .inl ⟨hs.1, fun hg => hs.2 (by simp [hg])⟩) (fun _ _ _ => rfl)) (blk_set8 HF.out.2.2.1 (by omega) _ _ _ _ _ _ _ _) (.inr (by omega))⟩ HF.out.2.1
end Go.Proofs.YtkbplcfehllbjaaGreatDoor
/- rowOf; the deferred leave; a panic through a region of a function that defers. -/
namespace Go.Proofs.YtkbplcfehllbjaaGreatDoor
open Go.RowKit
set_option maxRecDepth 100000 in
theorem rowOf_0 (w : World) : Calls Tryz.prog 109 #[.string ⟨([124] : List UInt8).toArray⟩] w fun e w' => e = .returned (.int .i64 (rowOf [124] : Nat)) ∧ w = w' := by
  have hr : rowOf [124] = 1 := rfl
  rw [hr]
  go_enter Tryz.func109, Tryz.ntmps109
  go_wp2
  go_ret
  exact ⟨rfl, rfl⟩
set_option maxRecDepth 100000 in
theorem rowOf_1 (w : World) : Calls Tryz.prog 109 #[.string ⟨([94] : List UInt8).toArray⟩] w fun e w' => e = .returned (.int .i64 (rowOf [94] : Nat)) ∧ w = w' := by
  have hr : rowOf [94] = 2 := rfl
  rw [hr]
  go_enter Tryz.func109, Tryz.ntmps109
  go_wp2
  go_ret
  exact ⟨rfl, rfl⟩
set_option maxRecDepth 100000 in
theorem rowOf_2 (w : World) : Calls Tryz.prog 109 #[.string ⟨([38] : List UInt8).toArray⟩] w fun e w' => e = .returned (.int .i64 (rowOf [38] : Nat)) ∧ w = w' := by
  have hr : rowOf [38] = 3 := rfl
  rw [hr]
  go_enter Tryz.func109, Tryz.ntmps109
  go_wp2
  go_ret
  exact ⟨rfl, rfl⟩
set_option maxRecDepth 100000 in
theorem rowOf_3 (w : World) : Calls Tryz.prog 109 #[.string ⟨([61, 61] : List UInt8).toArray⟩] w fun e w' => e = .returned (.int .i64 (rowOf [61, 61] : Nat)) ∧ w = w' := by
  have hr : rowOf [61, 61] = 4 := rfl
  rw [hr]
  go_enter Tryz.func109, Tryz.ntmps109
  go_wp2
  go_ret
  exact ⟨rfl, rfl⟩
set_option maxRecDepth 100000 in
theorem rowOf_4 (w : World) : Calls Tryz.prog 109 #[.string ⟨([33, 61] : List UInt8).toArray⟩] w fun e w' => e = .returned (.int .i64 (rowOf [33, 61] : Nat)) ∧ w = w' := by
  have hr : rowOf [33, 61] = 4 := rfl
  rw [hr]
  go_enter Tryz.func109, Tryz.ntmps109
  go_wp2
  go_ret
  exact ⟨rfl, rfl⟩
set_option maxRecDepth 100000 in
theorem rowOf_5 (w : World) : Calls Tryz.prog 109 #[.string ⟨([60] : List UInt8).toArray⟩] w fun e w' => e = .returned (.int .i64 (rowOf [60] : Nat)) ∧ w = w' := by
  have hr : rowOf [60] = 5 := rfl
  rw [hr]
  go_enter Tryz.func109, Tryz.ntmps109
  go_wp2
  go_ret
  exact ⟨rfl, rfl⟩
set_option maxRecDepth 100000 in
theorem rowOf_6 (w : World) : Calls Tryz.prog 109 #[.string ⟨([60, 61] : List UInt8).toArray⟩] w fun e w' => e = .returned (.int .i64 (rowOf [60, 61] : Nat)) ∧ w = w' := by
  have hr : rowOf [60, 61] = 5 := rfl
  rw [hr]
  go_enter Tryz.func109, Tryz.ntmps109
  go_wp2
  go_ret
  exact ⟨rfl, rfl⟩
set_option maxRecDepth 100000 in
theorem rowOf_7 (w : World) : Calls Tryz.prog 109 #[.string ⟨([62] : List UInt8).toArray⟩] w fun e w' => e = .returned (.int .i64 (rowOf [62] : Nat)) ∧ w = w' := by
  have hr : rowOf [62] = 5 := rfl
  rw [hr]
  go_enter Tryz.func109, Tryz.ntmps109
  go_wp2
  go_ret
  exact ⟨rfl, rfl⟩
set_option maxRecDepth 100000 in
theorem rowOf_8 (w : World) : Calls Tryz.prog 109 #[.string ⟨([62, 61] : List UInt8).toArray⟩] w fun e w' => e = .returned (.int .i64 (rowOf [62, 61] : Nat)) ∧ w = w' := by
  have hr : rowOf [62, 61] = 5 := rfl
  rw [hr]
  go_enter Tryz.func109, Tryz.ntmps109
  go_wp2
  go_ret
  exact ⟨rfl, rfl⟩
set_option maxRecDepth 100000 in
theorem rowOf_9 (w : World) : Calls Tryz.prog 109 #[.string ⟨([60, 60] : List UInt8).toArray⟩] w fun e w' => e = .returned (.int .i64 (rowOf [60, 60] : Nat)) ∧ w = w' := by
  have hr : rowOf [60, 60] = 6 := rfl
  rw [hr]
  go_enter Tryz.func109, Tryz.ntmps109
  go_wp2
  go_ret
  exact ⟨rfl, rfl⟩
set_option maxRecDepth 100000 in
theorem rowOf_10 (w : World) : Calls Tryz.prog 109 #[.string ⟨([62, 62] : List UInt8).toArray⟩] w fun e w' => e = .returned (.int .i64 (rowOf [62, 62] : Nat)) ∧ w = w' := by
  have hr : rowOf [62, 62] = 6 := rfl
  rw [hr]
  go_enter Tryz.func109, Tryz.ntmps109
  go_wp2
  go_ret
  exact ⟨rfl, rfl⟩
set_option maxRecDepth 100000 in
theorem rowOf_11 (w : World) : Calls Tryz.prog 109 #[.string ⟨([43] : List UInt8).toArray⟩] w fun e w' => e = .returned (.int .i64 (rowOf [43] : Nat)) ∧ w = w' := by
  have hr : rowOf [43] = 7 := rfl
  rw [hr]
  go_enter Tryz.func109, Tryz.ntmps109
  go_wp2
  go_ret
  exact ⟨rfl, rfl⟩
set_option maxRecDepth 100000 in
theorem rowOf_12 (w : World) : Calls Tryz.prog 109 #[.string ⟨([45] : List UInt8).toArray⟩] w fun e w' => e = .returned (.int .i64 (rowOf [45] : Nat)) ∧ w = w' := by
  have hr : rowOf [45] = 7 := rfl
  rw [hr]
  go_enter Tryz.func109, Tryz.ntmps109
  go_wp2
  go_ret
  exact ⟨rfl, rfl⟩
set_option maxRecDepth 100000 in
theorem rowOf_13 (w : World) : Calls Tryz.prog 109 #[.string ⟨([42] : List UInt8).toArray⟩] w fun e w' => e = .returned (.int .i64 (rowOf [42] : Nat)) ∧ w = w' := by
  have hr : rowOf [42] = 8 := rfl
  rw [hr]
  go_enter Tryz.func109, Tryz.ntmps109
  go_wp2
  go_ret
  exact ⟨rfl, rfl⟩
set_option maxRecDepth 100000 in
theorem rowOf_14 (w : World) : Calls Tryz.prog 109 #[.string ⟨([47] : List UInt8).toArray⟩] w fun e w' => e = .returned (.int .i64 (rowOf [47] : Nat)) ∧ w = w' := by
  have hr : rowOf [47] = 8 := rfl
  rw [hr]
  go_enter Tryz.func109, Tryz.ntmps109
  go_wp2
  go_ret
  exact ⟨rfl, rfl⟩
set_option maxRecDepth 100000 in
theorem rowOf_15 (w : World) : Calls Tryz.prog 109 #[.string ⟨([37] : List UInt8).toArray⟩] w fun e w' => e = .returned (.int .i64 (rowOf [37] : Nat)) ∧ w = w' := by
  have hr : rowOf [37] = 8 := rfl
  rw [hr]
  go_enter Tryz.func109, Tryz.ntmps109
  go_wp2
  go_ret
  exact ⟨rfl, rfl⟩
set_option maxRecDepth 100000 in
set_option maxHeartbeats 1000000 in
theorem rowOf_no (s : List UInt8) (h0 : (s == [124]) = false) (h1 : (s == [94]) = false) (h2 : (s == [38]) = false) (h3 : (s == [61, 61]) = false) (h4 : (s == [33, 61]) = false) (h5 : (s == [60]) = false) (h6 : (s == [60, 61]) = false) (h7 : (s == [62]) = false) (h8 : (s == [62, 61]) = false) (h9 : (s == [60, 60]) = false) (h10 : (s == [62, 62]) = false) (h11 : (s == [43]) = false) (h12 : (s == [45]) = false) (h13 : (s == [42]) = false) (h14 : (s == [47]) = false) (h15 : (s == [37]) = false) (w : World) : Calls Tryz.prog 109 #[.string ⟨s.toArray⟩] w fun e w' => e = .returned (.int .i64 0) ∧ w = w' := by
  go_enter Tryz.func109, Tryz.ntmps109
  go_wp2
  go_ret
  exact ⟨rfl, rfl⟩
theorem rowOf_any (s : List UInt8) (w : World) : Calls Tryz.prog 109 #[.string ⟨s.toArray⟩] w fun e w' => e = .returned (.int .i64 (rowOf s : Nat)) ∧ w = w' := by
  by_cases h0 : s = [124]
  · subst h0; exact rowOf_0 w
  by_cases h1 : s = [94]
  · subst h1; exact rowOf_1 w
  by_cases h2 : s = [38]
  · subst h2; exact rowOf_2 w
  by_cases h3 : s = [61, 61]
  · subst h3; exact rowOf_3 w
  by_cases h4 : s = [33, 61]
  · subst h4; exact rowOf_4 w
  by_cases h5 : s = [60]
  · subst h5; exact rowOf_5 w
  by_cases h6 : s = [60, 61]
  · subst h6; exact rowOf_6 w
  by_cases h7 : s = [62]
  · subst h7; exact rowOf_7 w
  by_cases h8 : s = [62, 61]
  · subst h8; exact rowOf_8 w
  by_cases h9 : s = [60, 60]
  · subst h9; exact rowOf_9 w
  by_cases h10 : s = [62, 62]
  · subst h10; exact rowOf_10 w
  by_cases h11 : s = [43]
  · subst h11; exact rowOf_11 w
  by_cases h12 : s = [45]
  · subst h12; exact rowOf_12 w
  by_cases h13 : s = [42]
  · subst h13; exact rowOf_13 w
  by_cases h14 : s = [47]
  · subst h14; exact rowOf_14 w
  by_cases h15 : s = [37]
  · subst h15; exact rowOf_15 w
  have hr : rowOf s = 0 := by simp [rowOf, h0, h1, h2, h3, h4, h5, h6, h7, h8, h9, h10, h11, h12, h13, h14, h15]
  rw [hr]
  exact rowOf_no s (beq_eq_false_iff_ne.2 h0) (beq_eq_false_iff_ne.2 h1) (beq_eq_false_iff_ne.2 h2) (beq_eq_false_iff_ne.2 h3) (beq_eq_false_iff_ne.2 h4) (beq_eq_false_iff_ne.2 h5) (beq_eq_false_iff_ne.2 h6) (beq_eq_false_iff_ne.2 h7) (beq_eq_false_iff_ne.2 h8) (beq_eq_false_iff_ne.2 h9) (beq_eq_false_iff_ne.2 h10) (beq_eq_false_iff_ne.2 h11) (beq_eq_false_iff_ne.2 h12) (beq_eq_false_iff_ne.2 h13) (beq_eq_false_iff_ne.2 h14) (beq_eq_false_iff_ne.2 h15) w
set_option maxRecDepth 100000 in
set_option maxHeartbeats 1000000 in
theorem leave_d (C : Ctx) (u : FrameMode) (w : World) (i d : Nat) (h : Pr C w i (d + 1)) :
    CallsD Tryz.prog 77 #[C.p] u w fun e u' w' => u' = u ∧ e = .returned (.tuple #[]) ∧ w.grownBy w' (some C.bp) ∧ Pr C w' i d := by
  have HP := Lib.hid h.at
  have hp : C.p = .pointer (some ⟨C.bp, 0, none⟩) := rfl
  obtain ⟨_, _, c2, _, _, _, f2, _⟩ := cells4_of w C.bp _ _ _ _ _ h.blk
  have hle := h.dle
  clear h
  go_enter_d Tryz.func77, Tryz.ntmps77
  go_wp2_with fail
  go_end0
  have := HP.out.around (j := d) (v := (d : Int)) (by omega) rfl
  exact ⟨rfl, this.gr, this.pr⟩
/-- What a deferring function says of a panic, whatever its frame: the parser's nesting is one less behind it. -/
theorem leaves_panic {fn : Func} {tm : Array Value} {C : Ctx} {w : World} {i d : Nat} {ch : List PanicEntry} {R : Ending → World → Prop} (hun : ∀ (l : List PanicEntry) (e : PanicEntry), ch = e :: l → e.recovered = false) (h : Pr C w i (d + 1)) (hR : ∀ w', w.grownBy w' (some C.bp) → Pr C w' i d → R (.panicked ch) w') :
    Leaves Tryz.prog fn tm R [{ target := .fn (.func 77) #[], args := #[C.p] }] (.panicking ch) w := by
  refine leaves_cons (f := 77) (args := #[C.p]) (by simp) (by simp [go_sem]) ?_
  refine (leave_d C _ w i d h).mono ?_
  rintro e u' w'' ⟨rfl, rfl, hg, hp⟩
  have : settle (.panicking ch) = .panicking ch := by
    cases ch with
    | nil => rfl
    | cons e l =>
      have := hun l e rfl
      obtain ⟨v, r, g⟩ := e
      simp at this
      subst this
      rfl
  show Leaves _ _ _ _ [] (settle (.panicking ch)) w''
  rw [this]
  exact hR _ hg hp
theorem leaves_return {fn : Func} {tm : Array Value} {C : Ctx} {w : World} {i d : Nat} {R : Ending → World → Prop} (h : Pr C w i (d + 1)) (hR : ∀ w', w.grownBy w' (some C.bp) → Pr C w' i d → ∃ v, (results fn tm).run Tryz.prog w' = .ok v w' ∧ R (.returned v) w') :
    Leaves Tryz.prog fn tm R [{ target := .fn (.func 77) #[], args := #[C.p] }] .returning w := by
  refine leaves_cons (f := 77) (args := #[C.p]) (by simp) (by simp [go_sem]) ?_
  refine (leave_d C _ w i d h).mono ?_
  rintro e u' w'' ⟨rfl, rfl, hg, hp⟩
  exact hR _ hg hp
/-- A post whose panic does not hang on the frame. -/
def PanicAs (D : List Deferred) (fn : Func) (R : Ending → World → Prop) (Q : Exit → Act → World → Prop) : Exit → Act → World → Prop
  | .panic ch, a, w => a.defers = D ∧ ∀ tm, Leaves Tryz.prog fn tm R D (.panicking ch) w
  | e, a, w => Q e a w
theorem wp_panicAs {c : Code} {D : List Deferred} {fn : Func} {R : Ending → World → Prop} {Q : Exit → Act → World → Prop} {a : Act} {w : World} (hQ : ∀ ch a w, Leaves Tryz.prog fn a.tmps R a.defers (.panicking ch) w → Q (.panic ch) a w)
    (h : c.wp Tryz.prog (PanicAs D fn R Q) a w) : c.wp Tryz.prog Q a w := by
  refine Code.wp_mono ?_ h
  intro e a w hq
  cases e with
  | panic ch => exact hQ ch a w (by rw [hq.1]; exact hq.2 _)
  | _ => exact hq
end Go.Proofs.YtkbplcfehllbjaaGreatDoor
/- binary. -/
namespace Go.Proofs.YtkbplcfehllbjaaGreatDoor
open Go.RowKit
attribute [local go_sem ↓] Go.wp_at_zero Go.wp_at_succ
theorem RepK.two {w : World} {S : Nat → Prop} {n m : Nd} {ofv kv ofm km : Value} {L : Nat} (h : RepOf w S ofv n.typ.of) (hk : RepK w S kv n.kids) (h' : RepOf w S ofm m.typ.of) (hk' : RepK w S km m.kids)
    (hb : w.heap[L]? = some (.cells #[.int .i64 n.kind, .string ⟨n.text.toArray⟩, .int .i64 n.num, .int .i64 n.typ.kind, .int .i64 n.typ.num, .string ⟨n.typ.name.toArray⟩, ofv, kv, .int .i64 m.kind, .string ⟨m.text.toArray⟩, .int .i64 m.num, .int .i64 m.typ.kind, .int .i64 m.typ.num, .string ⟨m.typ.name.toArray⟩, ofm, km] 28 (0, 0))) (hS : S L) :
    RepK w S (.slice (some ⟨L, 0, none⟩) 2 2) [n, m] :=
  ⟨ndC n ofv kv ++ ndC m ofm km, ⟨rfl, .inr ⟨L, 2, _, rfl, Nat.zero_le _, hb, Nat.le_refl _, by unfold maxLen; omega, rfl, rfl⟩⟩, fun g hg => by simp [Value.ownBlock] at hg; subst hg; exact hS, ⟨ndC n ofv kv, ndC m ofm km, rfl, RepN.of h hk, ⟨ndC m ofm km, [], by simp, RepN.of h' hk', rfl⟩⟩⟩
theorem rowOf_le (s : List UInt8) : rowOf s ≤ 8 := by
  unfold rowOf; repeat' split
  all_goals omega
theorem rowOf_ne {s : List UInt8} (h : 1 ≤ rowOf s) : s ≠ [] := by
  intro e; subst e; simp [rowOf] at h
theorem bin_stop {bin : Nat → List T4 → PR Nd} {least m : Nat} {n : Nd} {ts : List T4} (h : rowOf (hdT ts).text < least) : loopP (binStep bin least) (m + 1) n ts = .ok n ts := by
  simp [loopP, binStep, h]
theorem bin_err {bin : Nat → List T4 → PR Nd} {least m : Nat} {n : Nd} {ts : List T4} {p : Nat} {e : Int} (h : ¬ rowOf (hdT ts).text < least) (h2 : bin (rowOf (hdT ts).text + 1) ts.tail = .err p e) : loopP (binStep bin least) (m + 1) n ts = .err p e := by
  simp [loopP, binStep, h, h2]
theorem bin_more {bin : Nat → List T4 → PR Nd} {least m : Nat} {n n2 : Nd} {ts r : List T4} (h : ¬ rowOf (hdT ts).text < least) (h2 : bin (rowOf (hdT ts).text + 1) ts.tail = .ok n2 r) : loopP (binStep bin least) (m + 1) n ts = loopP (binStep bin least) m (.mk 4 (hdT ts).text 0 Ty.none [n, n2]) r := by
  simp [loopP, binStep, h, h2]
def RunsB (C : Ctx) (d : Nat) (R : Rec) (f least : Nat) : Prop := ∀ (w : World) (i : Nat), Pr C w i d → Calls Tryz.prog 103 #[C.p, .int .i64 least] w (Out C w d (binP R f least (C.toks.drop i)) (fun n => ndVal n w))
set_option maxRecDepth 100000 in
set_option maxHeartbeats 4000000 in
theorem binary_any (C : Ctx) (d : Nat) (R : Rec) (L : Lev C d R) : ∀ (f least : Nat), 1 ≤ least → least ≤ 9 → 10 ≤ f + least → RunsB C d R f least := by
  intro f
  induction f with
  | zero => intro least h1 h2 h3; omega
  | succ f ih =>
    intro least h1 h2 h3 w i h
    have HP := Lib.hid h.at
    have hbp := lt_of_heap h.blk
    have hlen := h.len
    have HL := Lib.hid L.un
    have HSh := Lib.hid (fun k => (Shr.bin L.shr f k).shrinks)
    have HI := Lib.hid ih
    clear L h ih
    unfold binP
    have hf := field2
    go_enter Tryz.func103, Tryz.ntmps103
    go_wp2_with fail
    have HA0 := Lib.hid (HP.out.alloc (.cells #[.int .i64 0, .string ⟨#[]⟩, .int .i64 0, .int .i64 0, .int .i64 0, .string ⟨#[]⟩, .slice none 0 0, .slice none 0 0] 28))
    have B0 := Lib.hid (blk_new w (.cells #[.int .i64 0, .string ⟨#[]⟩, .int .i64 0, .int .i64 0, .int .i64 0, .string ⟨#[]⟩, .slice none 0 0, .slice none 0 0] 28))
    have HC := Lib.hid (HL.out _ i HA0.out.pr)
    generalize hR1 : R.unary (C.toks.drop i) = R1 at HC
    refine HC.out.mono ?_
    cases R1 with
    | err p er =>
      rintro e w1 ⟨hg, i1, d1, rfl, hdd, hp1⟩
      exact ⟨rfl, (HA0.out.turn hg hp1).errOut (by rw [hR1]; rfl)⟩
    | ok n r =>
      rintro e w1 ⟨hg, v1, i1, rfl, ⟨ofv, kv, rfl, hof, hkv⟩, hp1, rfl⟩
      obtain ⟨sa, sn, sc, rfl⟩ := hof.isSlice
      obtain ⟨ka, kn, kc, rfl⟩ := hkv.isSlice
      have HA1 := Lib.hid (HA0.out.turn hg hp1)
      have B1 := Lib.hid (blk_call B0.out hg (by simp; omega))
      have hz1 := hg.size
      simp at hz1
      have hi1 := hp1.lt
      have HO1 := Lib.hid (hof.mono (S' := Sx w.heap.size [w.heap.size, w1.heap.size]) (fun g hs hl => ⟨by simp at hs; omega, by simp at hs; simp; omega⟩) (fun _ _ _ => rfl))
      have HK1 := Lib.hid (hkv.mono (S' := Sx w.heap.size [w.heap.size, w1.heap.size]) (fun g hs hl => ⟨by simp at hs; omega, by simp at hs; simp; omega⟩) (fun _ _ _ => rfl))
      have HR1 := Lib.hid hR1
      clear hg hp1 hof hkv hR1 HC
      unfold ndV
      go_wp2_with fail
      have z2 : w.heap.size < w1.heap.size := by omega
      have N1 := Lib.hid (blk_new w1 (.cells #[.int .i64 n.kind, .string ⟨n.text.toArray⟩, .int .i64 n.num, .int .i64 n.typ.kind, .int .i64 n.typ.num, .string ⟨n.typ.name.toArray⟩, .slice sa sn sc, .slice ka kn kc] 28))
      have B2 := Lib.hid (blk_alloc B1.out (.cells #[.int .i64 n.kind, .string ⟨n.text.toArray⟩, .int .i64 n.num, .int .i64 n.typ.kind, .int .i64 n.typ.num, .string ⟨n.typ.name.toArray⟩, .slice sa sn sc, .slice ka kn kc] 28))
      have HA2 := Lib.hid (HA1.out.alloc (.cells #[.int .i64 n.kind, .string ⟨n.text.toArray⟩, .int .i64 n.num, .int .i64 n.typ.kind, .int .i64 n.typ.num, .string ⟨n.typ.name.toArray⟩, .slice sa sn sc, .slice ka kn kc] 28))
      have HO2 := Lib.hid (HO1.out.kept ((Kept.refl _ _).alloc (.cells #[.int .i64 n.kind, .string ⟨n.text.toArray⟩, .int .i64 n.num, .int .i64 n.typ.kind, .int .i64 n.typ.num, .string ⟨n.typ.name.toArray⟩, .slice sa sn sc, .slice ka kn kc] 28)))
      have HK2 := Lib.hid (HK1.out.kept ((Kept.refl _ _).alloc (.cells #[.int .i64 n.kind, .string ⟨n.text.toArray⟩, .int .i64 n.num, .int .i64 n.typ.kind, .int .i64 n.typ.num, .string ⟨n.typ.name.toArray⟩, .slice sa sn sc, .slice ka kn kc] 28)))
      have hz3 : w1.heap.size < (w1.alloc (.cells #[.int .i64 n.kind, .string ⟨n.text.toArray⟩, .int .i64 n.num, .int .i64 n.typ.kind, .int .i64 n.typ.num, .string ⟨n.typ.name.toArray⟩, .slice sa sn sc, .slice ka kn kc] 28)).heap.size := by simp
      generalize w1.heap.size = L1 at *
      go_loopg [] (C.toks.length - i1) (fun g wr => ∃ (i' m : Nat) (n' : Nd) (xa ya : Option Addr) (xn xc yn yc : Nat), g = C.toks.length - i' ∧ i' < C.toks.length ∧ C.toks.length - i' < m ∧ L1 < wr.heap.size ∧ Hid (At C w wr i' d) ∧ Hid (wr.heap[w.heap.size]? = some (.cells #[.int .i64 0, .string ⟨#[]⟩, .int .i64 0, .int .i64 0, .int .i64 0, .string ⟨#[]⟩, .slice none 0 0, .slice none 0 0] 28)) ∧ Hid (wr.heap[L1]? = some (.cells #[.int .i64 n'.kind, .string ⟨n'.text.toArray⟩, .int .i64 n'.num, .int .i64 n'.typ.kind, .int .i64 n'.typ.num, .string ⟨n'.typ.name.toArray⟩, .slice xa xn xc, .slice ya yn yc] 28)) ∧
        Hid (RepOf wr (Sx w.heap.size [w.heap.size, L1]) (.slice xa xn xc) n'.typ.of) ∧ Hid (RepK wr (Sx w.heap.size [w.heap.size, L1]) (.slice ya yn yc) n'.kids) ∧ Hid (loopP (binStep (binP R f) least) ((C.toks.drop i1).length + 1) n (C.toks.drop i1) = loopP (binStep (binP R f) least) m n' (C.toks.drop i')))
      case atStart => exact ⟨i1, (C.toks.drop i1).length + 1, n, sa, ka, sn, sc, kn, kc, rfl, hi1, by simp, hz3, HA2.out, B2.out, N1.out, HO2.out, HK2.out, rfl⟩
      case round =>
        obtain ⟨i', m, n', xa, ya, xn, xc, yn, yc, rfl, hi', hm, hLz, hat, hb0, hb1, hO, hK, hE⟩ := hrel
        obtain ⟨m, rfl⟩ : ∃ k, m = k + 1 := ⟨m - 1, by omega⟩
        have HT := Lib.hid (token_any C wr i' d hat.out.pr _ (hd_at _ _ hi'))
        have HT2 := Lib.hid (hd_at _ _ hi')
        have hfin := hat.out.pr.fin i' _ (hd_at _ _ hi')
        have hro := rowOf_le (hdT (C.toks.drop i')).text
        have hne := rowOf_ne (s := (hdT (C.toks.drop i')).text)
        have hstop := bin_stop (bin := binP R f) (least := least) (m := m) (n := n') (ts := C.toks.drop i')
        have hbe := fun p e => bin_err (bin := binP R f) (least := least) (m := m) (n := n') (ts := C.toks.drop i') (p := p) (e := e)
        have hbm := fun n2 r => bin_more (bin := binP R f) (least := least) (m := m) (n := n') (ts := C.toks.drop i') (n2 := n2) (r := r)
        simp only [tl_at] at hbe hbm
        generalize hdT (C.toks.drop i') = t at *
        by_cases hrow : rowOf t.text < least
        · have HE := Lib.hid (hE.out.trans (hstop hrow))
          have hd1 : decide ((rowOf t.text : Int) < least) = true := by simp; omega
          clear hstop hbe hbm hfin hne hro
          have hrow' : (rowOf t.text : Int) < least := by omega
          have HRO := Lib.hid (fun w => rowOf_any t.text w)
          generalize rowOf t.text = row at *
          go_wp2_with fail
          refine HT.out.mono ?_
          rintro e w2 ⟨rfl, hg2⟩
          have HG2 := Lib.hid hg2
          obtain ⟨⟨q0, q1, q2, q3, q4, q5, q6, q7⟩, _⟩ := cells8_of w2 L1 _ _ _ _ _ _ _ _ _ (blk_call hb1.out hg2 (by simp))
          obtain ⟨⟨r0, r1, r2, r3, r4, r5, r6, r7⟩, e0, e1, e2, e3, e4, e5, e6, e7⟩ := cells8_of w2 w.heap.size _ _ _ _ _ _ _ _ _ (blk_call hb0.out hg2 (by simp))
          have hz5 := hg2.size
          have z6 : L1 < w2.heap.size := by omega
          have z7 : w.heap.size < w2.heap.size := by omega
          clear hg2
          unfold tkV
          go_wp2_with fail
          refine (HRO.out _).mono ?_
          rintro e w3 ⟨rfl, rfl⟩
          go_wp2_with fail
          refine bodyPost_ret (v := ndV n' (.slice xa xn xc) (.slice ya yn yc)) (by simp [results, Tryz.results103, go_sem, r0, r1, r2, r3, r4, r5, r6, r7]; rfl) rfl ?_
          have HA9 := hat.out.call HG2.out
          have K := ((Kept.refl (Sx w.heap.size [w.heap.size, L1]) wr).call0 HG2.out).set8 (b := w.heap.size) (by simp) (.int .i64 n'.kind) (.string ⟨n'.text.toArray⟩) (.int .i64 n'.num) (.int .i64 n'.typ.kind) (.int .i64 n'.typ.num) (.string ⟨n'.typ.name.toArray⟩) (.slice xa xn xc) (.slice ya yn yc)
          exact (HA9.set8 (Nat.le_refl _) _ _ _ _ _ _ _ _).okOut (by rw [HR1.out, PR.bind_ok]; exact HE.out) ⟨_, _, rfl, (hO.out.kept K).out (Nat.le_refl _), (hK.out.kept K).out (Nat.le_refl _)⟩ rfl
        · have hd1 : decide ((rowOf t.text : Int) < least) = false := by simp; omega
          have hne' := hne (by omega)
          have hl : i' + 1 < C.toks.length := hfin (Or.inl hne')
          have hlow : ¬ ((rowOf t.text : Int) < least) := by omega
          have hd2 : decide (rowOf t.text < least) = false := by simp; omega
          have hp : C.p = .pointer (some ⟨C.bp, 0, none⟩) := rfl
          have HRO := Lib.hid (fun w => rowOf_any t.text w)
          have HI1 := Lib.hid (HI.out (rowOf t.text + 1) (by omega) (by omega) (by omega))
          have HS1 := Lib.hid (HSh.out (rowOf t.text + 1))
          have HBE := Lib.hid (fun p e => hbe p e hrow)
          have HBM := Lib.hid (fun n2 r => hbm n2 r hrow)
          have hr8 : (rowOf t.text : Int) + 1 ≤ 9 := by omega
          have hr0 : (0 : Int) ≤ rowOf t.text := by omega
          clear hstop hbe hbm hfin hne hro hne' hrow
          generalize rowOf t.text = row at *
          go_wp2_with fail
          refine HT.out.mono ?_
          rintro e w2 ⟨rfl, hg2⟩
          have HG2 := Lib.hid hg2
          have HA2' := Lib.hid (hat.out.call hg2)
          obtain ⟨c0, c1, c2, c3, f0, f1, f2, f3⟩ := cells4_of w2 C.bp _ _ _ _ _ HA2'.out.pr.blk
          have hz5 := hg2.size
          have z6 : L1 < w2.heap.size := by omega
          have z7 : w.heap.size < w2.heap.size := by omega
          have hbz : C.bp < w2.heap.size := by omega
          clear hg2
          unfold tkV
          go_wp2_with fail
          refine (HRO.out _).mono ?_
          rintro e w3 ⟨rfl, rfl⟩
          have hwr : IntKind.i64.wrap ((row : Int) + 1) = (row : Int) + 1 := by rw [IntKind.wrap_i64]; omega
          go_wp2_with fail
          have HA7 := Lib.hid (HA2'.out.next hl (v := (i' : Int) + 1) (by omega))
          have hL1 : L1 ≠ C.bp := by omega
          have hL0 : w.heap.size ≠ C.bp := by omega
          have B7 := Lib.hid (blk_set (blk_call hb1.out HG2.out (by simp)) (p := ⟨C.bp, 1, none⟩) hL1 (.int .i64 ((i' : Int) + 1)))
          have Z7 := Lib.hid (blk_set (blk_call hb0.out HG2.out (by simp)) (p := ⟨C.bp, 1, none⟩) hL0 (.int .i64 ((i' : Int) + 1)))
          have K7 := Lib.hid (((Kept.refl (Sx w.heap.size [w.heap.size, L1]) wr).call0 HG2.out).setLow (p := ⟨C.bp, 1, none⟩) hbp (.int .i64 ((i' : Int) + 1)))
          have hW7 : L1 < (w2.setCell ⟨C.bp, 1, none⟩ (.int .i64 ((i' : Int) + 1))).heap.size := by rw [show (w2.setCell ⟨C.bp, 1, none⟩ (.int .i64 ((i' : Int) + 1))).heap.size = w2.heap.size by simp [World.setCell]]; exact z6
          generalize w2.setCell ⟨C.bp, 1, none⟩ (.int .i64 ((i' : Int) + 1)) = W7 at *
          have HO7 := Lib.hid (hO.out.kept K7.out)
          have HK7 := Lib.hid (hK.out.kept K7.out)
          have HN : Hid (∀ w, Pr C w (i' + 1) d → Calls Tryz.prog 103 #[C.p, .int .i64 ((row : Int) + 1)] w (Out C w d (binP R f (row + 1) (C.toks.drop (i' + 1))) (fun n => ndVal n w))) := Lib.hid (fun w h => HI1.out w (i' + 1) h)
          have HS2 := Lib.hid (fun a r => HS1.out (C.toks.drop (i' + 1)) a r (by simp; omega))
          clear HI HI1 HS1 HSh HP HA0 HA1 HA2 HO1 HO2 HK1 HK2 B0 B1 B2 N1 hb0 hb1 hO hK HA2' HG2 hat HL HT HT2 HRO c0 c1 c2 c3 f0 f1 f2 f3
          generalize binP R f (row + 1) (C.toks.drop (i' + 1)) = R0 at *
          obtain ⟨⟨q0, q1, q2, q3, q4, q5, q6, q7⟩, _⟩ := cells8_of W7 L1 _ _ _ _ _ _ _ _ _ B7.out
          have hz7 : w.heap.size < W7.heap.size := by omega
          go_region_with (go_at_call 103; refine (HN.out _ HA7.out.drew.pr).mono ?_; rcases R0 with ⟨m2, r⟩ | ⟨p, er⟩; rotate_left; (rintro e wc ⟨hg, i2, d2, rfl, hdd, hp1⟩; exact ⟨rfl, (HA7.out.drew.turn hg hp1).errOut (by rw [HR1.out, PR.bind_ok]; exact hE.out.trans (HBE.out _ _ rfl))⟩); rintro e wc ⟨hg, v1, i2, rfl, ⟨ofm, km, rfl, hof, hkm⟩, hp1, hd1⟩; obtain ⟨oa, on, oc, rfl⟩ := hof.isSlice; obtain ⟨ma, mn, mc, rfl⟩ := hkm.isSlice; have HF := Lib.hid (And.intro (HA7.out.drew.turn hg hp1) (And.intro hd1 (And.intro ((Kept.refl (Sx w.heap.size [w.heap.size, L1]) W7).drew.call hg hbp) (And.intro (blk_call B7.out (undrew hg) (by simp; omega)) (And.intro (blk_call Z7.out (undrew hg) (by simp; omega)) (And.intro hof hkm)))))); obtain ⟨⟨p0, p1, p2, p3, p4, p5, p6, p7⟩, e0, e1, e2, e3, e4, e5, e6, e7⟩ := cells8_of wc L1 _ _ _ _ _ _ _ _ _ HF.out.2.2.2.1; have hz8 := hg.size; simp at hz8; have hz9 : L1 < wc.heap.size := (by omega); clear hg hp1 hof hkm; unfold ndV)
          all_goals
            have hd2' := HF.out.2.1
            have hi2 : i2 < C.toks.length := HF.out.1.pr.lt
            have hsh := HS2.out m2 r rfl
            rw [← hd2'] at hsh
            have hlt : C.toks.length - i2 < C.toks.length - i' := by simp at hsh; omega
            go_wp2_with fail
            go_roundg (C.toks.length - i2)
            case measure => omega
            case rel =>
              have K := ((HF.out.2.2.1).set8 (b := L1) (by simp) (.int .i64 4) (.string ⟨t.text.toArray⟩) (.int .i64 0) (.int .i64 0) (.int .i64 0) (.string ⟨#[]⟩) (.slice none 0 0) (.slice (some ⟨wc.heap.size, 0, none⟩) 2 2))
              have K2 := (((Kept.refl (Sx w.heap.size [w.heap.size, L1]) wc).set8 (b := L1) (by simp) (.int .i64 4) (.string ⟨t.text.toArray⟩) (.int .i64 0) (.int .i64 0) (.int .i64 0) (.string ⟨#[]⟩) (.slice none 0 0) (.slice (some ⟨wc.heap.size, 0, none⟩) 2 2)))
              have hso := (HF.out.2.2.2.2.2.1.into (X := [w.heap.size, L1]) (B := w.heap.size) (by simp; omega) (by simp; omega)).kept (K2.alloc (.cells #[.int .i64 n'.kind, .string ⟨n'.text.toArray⟩, .int .i64 n'.num, .int .i64 n'.typ.kind, .int .i64 n'.typ.num, .string ⟨n'.typ.name.toArray⟩, .slice xa xn xc, .slice ya yn yc, .int .i64 m2.kind, .string ⟨m2.text.toArray⟩, .int .i64 m2.num, .int .i64 m2.typ.kind, .int .i64 m2.typ.num, .string ⟨m2.typ.name.toArray⟩, .slice oa on oc, .slice ma mn mc] 28 (0, 0)))
              have hsk := (HF.out.2.2.2.2.2.2.into (X := [w.heap.size, L1]) (B := w.heap.size) (by simp; omega) (by simp; omega)).kept (K2.alloc (.cells #[.int .i64 n'.kind, .string ⟨n'.text.toArray⟩, .int .i64 n'.num, .int .i64 n'.typ.kind, .int .i64 n'.typ.num, .string ⟨n'.typ.name.toArray⟩, .slice xa xn xc, .slice ya yn yc, .int .i64 m2.kind, .string ⟨m2.text.toArray⟩, .int .i64 m2.num, .int .i64 m2.typ.kind, .int .i64 m2.typ.num, .string ⟨m2.typ.name.toArray⟩, .slice oa on oc, .slice ma mn mc] 28 (0, 0)))
              refine ⟨i2, m, .mk 4 t.text 0 Ty.none [n', m2], none, some ⟨wc.heap.size, 0, none⟩, 0, 0, 2, 2, rfl, hi2, by omega, ?_, ((HF.out.1.set8 (b := L1) (by omega) _ _ _ _ _ _ _ _).alloc _), blk_alloc (blk_set8 HF.out.2.2.2.2.1 (by omega) _ _ _ _ _ _ _ _) _, blk_alloc (blk_put8 HF.out.2.2.2.1 _ _ _ _ _ _ _ _) _, RepOf.nil _ _, RepK.two (HO7.out.kept (K.alloc _)) (HK7.out.kept (K.alloc _)) hso hsk ?_ ⟨by omega, by simp; omega⟩, hE.out.trans ((HBM.out m2 r rfl).trans (by rw [hd2']))⟩
              · simp [World.setCell]; omega
              · have := blk_new (wc.setCell ⟨L1, 0, none⟩ (.int .i64 4) |>.setCell ⟨L1, 1, none⟩ (.string ⟨t.text.toArray⟩) |>.setCell ⟨L1, 2, none⟩ (.int .i64 0) |>.setCell ⟨L1, 3, none⟩ (.int .i64 0) |>.setCell ⟨L1, 4, none⟩ (.int .i64 0) |>.setCell ⟨L1, 5, none⟩ (.string ⟨#[]⟩) |>.setCell ⟨L1, 6, none⟩ (.slice none 0 0) |>.setCell ⟨L1, 7, none⟩ (.slice (some ⟨wc.heap.size, 0, none⟩) 2 2)) (.cells #[.int .i64 n'.kind, .string ⟨n'.text.toArray⟩, .int .i64 n'.num, .int .i64 n'.typ.kind, .int .i64 n'.typ.num, .string ⟨n'.typ.name.toArray⟩, .slice xa xn xc, .slice ya yn yc, .int .i64 m2.kind, .string ⟨m2.text.toArray⟩, .int .i64 m2.num, .int .i64 m2.typ.kind, .int .i64 m2.typ.num, .string ⟨m2.typ.name.toArray⟩, .slice oa on oc, .slice ma mn mc] 28 (0, 0))
                simpa using this
end Go.Proofs.YtkbplcfehllbjaaGreatDoor
