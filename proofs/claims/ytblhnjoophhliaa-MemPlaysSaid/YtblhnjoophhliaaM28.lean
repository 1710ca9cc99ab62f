/- The document's memory: a row of bytes of the call's own; Lay. -/
import Derived.Test.YtblhnjoophhliaaM27
import Derived.StillTailTactics
import Derived.Laws.AppendOwnNone
namespace Go.Proofs.Ytblhnjoophhliaa
open Go.RowKit
theorem own_form {w : World} {B n size : Nat} {e : TypeId} {v : Value} {xs : List Value} (h : w.ownsRow B e size v n xs) : ∃ ad c, v = .slice ad n c ∧ ((ad = none → c = 0) ∧ n ≤ c) ∧ (∀ g, ad = some ⟨g, 0, none⟩ → B ≤ g ∧ g < w.heap.size) := by
  rcases h.2 with ⟨rfl, rfl⟩ | ⟨g, cap, cur, rfl, hb, hh, hnc, _⟩
  · exact ⟨none, 0, rfl, ⟨fun _ => rfl, Nat.le_refl _⟩, fun _ h => by cases h⟩
  · refine ⟨some ⟨g, 0, none⟩, cap, rfl, ⟨(fun h => by cases h), hnc⟩, fun g' h => ?_⟩
    injection h with h
    injection h with h
    exact ⟨by omega, by rw [← h]; exact lt_of_heap hh⟩
theorem own_rd {w : World} {B c : Nat} {ad : Option Addr} {M : List Byt} (h : w.ownsRow B 67 5 (.slice ad M.length c) M.length (flatC bytC M)) : RdAt w ad M := by
  by_cases h0 : M = []
  · exact .inl h0
  · obtain ⟨g, c', e, _, _⟩ := own_some h (by have := List.length_pos_iff.2 h0; omega)
    simp only [Value.slice.injEq] at e
    obtain ⟨rfl, _, rfl⟩ := e
    refine .inr ⟨g, rfl, fun j b hj q hq => ?_⟩
    have hjl := (List.getElem?_eq_some_iff.1 hj).1
    rw [h.cellAt _ (by omega), flat_at bytC_size _ _ _ hq, hj]; rfl
theorem RdAt.src {W : World} {a : Addr} {l : List Byt} (h : RdAt W (some a) l) : ∀ j u, (flatC bytC l)[j]? = some u → W.cell? (a.add j) = some u := by
  intro j u hu
  have hj : j < l.length * 5 := by have := (List.getElem?_eq_some_iff.1 hu).1; rwa [flat_len bytC_size] at this
  rcases h with rfl | ⟨g, e, hc⟩
  · simp at hj
  · obtain rfl : a = ⟨g, 0, none⟩ := by injection e
    have hd : j = j / 5 * 5 + j % 5 := by omega
    rw [hd, flat_at bytC_size _ _ _ (by omega)] at hu
    rw [add_zero0]
    have hx := List.getElem?_eq_getElem (show j / 5 < l.length by omega)
    rw [hx] at hu
    rw [hd, hc _ _ hx _ (by omega)]
    exact hu
theorem row_put5 {w : World} {B e r n cap k : Nat} {c1 c2 : List Value} {x0 x1 x2 x3 x4 : Value} (h : w.ownsRow B e 5 (.slice (some ⟨r, 0, none⟩) n cap) n (c1 ++ ([x0, x1, x2, x3, x4] ++ c2))) (hk : c1.length = k * 5) (y0 y1 y2 y3 y4 : Value) :
    (((((w.setCell ⟨r, k * 5, none⟩ y0).setCell ⟨r, k * 5 + 1, none⟩ y1).setCell ⟨r, k * 5 + 2, none⟩ y2).setCell ⟨r, k * 5 + 3, none⟩ y3).setCell ⟨r, k * 5 + 4, none⟩ y4).ownsRow B e 5 (.slice (some ⟨r, 0, none⟩) n cap) n (c1 ++ ([y0, y1, y2, y3, y4] ++ c2)) := by
  refine ⟨by have := h.1; simp at this ⊢; omega, ?_⟩
  rcases h.2 with ⟨h0, _⟩ | ⟨g', cap', cur, hv, hg, hh, hn, hc, hs, ht⟩
  · cases h0
  · simp only [Value.slice.injEq, Option.some.injEq, Addr.mk.injEq] at hv
    obtain ⟨⟨rfl, _, _⟩, _, rfl⟩ := hv
    refine .inr ⟨r, cap, ((((cur.setIfInBounds (k * 5) y0).setIfInBounds (k * 5 + 1) y1).setIfInBounds (k * 5 + 2) y2).setIfInBounds (k * 5 + 3) y3).setIfInBounds (k * 5 + 4) y4, rfl, hg, ?_, hn, hc, by simpa using hs, ?_⟩
    · simp [World.setCell, Array.getElem?_modify, hh]
    · simp only [Array.toList_setIfInBounds, List.take_set, ht]
      rw [List.set_append_right _ _ (by omega), hk, Nat.sub_self]
      rw [List.set_append_right _ _ (by omega), hk, show k * 5 + 1 - k * 5 = 1 by omega]
      rw [List.set_append_right _ _ (by omega), hk, show k * 5 + 2 - k * 5 = 2 by omega]
      rw [List.set_append_right _ _ (by omega), hk, show k * 5 + 3 - k * 5 = 3 by omega]
      rw [List.set_append_right _ _ (by omega), hk, show k * 5 + 4 - k * 5 = 4 by omega]
      rfl
theorem own_put {w : World} {B g c k : Nat} {M : List Byt} (h : w.ownsRow B 67 5 (.slice (some ⟨g, 0, none⟩) M.length c) M.length (flatC bytC M)) (hk : k < M.length) (b : Byt) :
    (putW w g (k * 5) b).ownsRow B 67 5 (.slice (some ⟨g, 0, none⟩) (M.set k b).length c) (M.set k b).length (flatC bytC (M.set k b)) := by
  obtain ⟨c1, c2, hd, e1, e2⟩ := flat_set bytC_size hk b
  rw [List.length_set, e2]
  rw [e1] at h
  exact row_put5 (x0 := .int .i64 M[k].k) (x1 := .int .u8 M[k].v) (x2 := .int .i64 M[k].p.n) (x3 := .int .i64 M[k].p.b) (x4 := .int .i64 M[k].p.f) h hd _ _ _ _ _
/-- Lay's state: the pointer, the block's copy, its bytes. -/
structure LayR (w W : World) (x : RB) (p : Val) (ad : Option Addr) (c : Nat) (M : List Byt) : Prop where
  b0 : VBox W w.heap.size p
  b1 : W.heap[w.heap.size + 1]? = some (.cells #[.int .i64 x.site, .slice ad x.bytes.length c, .bool x.ended] 59 (0, 0))
  row : W.ownsRow (w.heap.size + 2) 67 5 (.slice ad M.length c) M.length (flatC bytC M)
  gr : w.grownBy W none
theorem LayR.box {w W : World} {x : RB} {p : Val} {ad : Option Addr} {c : Nat} {M : List Byt} (h : LayR w W x p ad c M) : W.cell? ⟨w.heap.size + 1, 0, none⟩ = some (.int .i64 x.site) ∧ W.cell? ⟨w.heap.size + 1, 1, none⟩ = some (.slice ad x.bytes.length c) ∧ W.cell? ⟨w.heap.size + 1, 2, none⟩ = some (.bool x.ended) := by
  have e := h.b1
  refine ⟨?_, ?_, ?_⟩ <;> simp [World.cell?, e]
theorem LayR.drew {w W : World} {x : RB} {p : Val} {ad : Option Addr} {c : Nat} {M : List Byt} (h : LayR w W x p ad c M) (n : Nat) : LayR w (W.drewN n) x p ad c M := ⟨h.b0, h.b1, h.row, gr_drewN h.gr n⟩
theorem LayR.put {w W : World} {x : RB} {p : Val} {g c k : Nat} {M : List Byt} (h : LayR w W x p (some ⟨g, 0, none⟩) c M) (hg : w.heap.size + 2 ≤ g) (hk : k < M.length) (b : Byt) : LayR w (putW W g (k * 5) b) x p (some ⟨g, 0, none⟩) c (M.set k b) := by
  have keep : ∀ i, i ≠ g → (putW W g (k * 5) b).heap[i]? = W.heap[i]? := fun i hi => by
    unfold putW
    rw [Below.heap_setCell _ _ _ _ hi, Below.heap_setCell _ _ _ _ hi, Below.heap_setCell _ _ _ _ hi, Below.heap_setCell _ _ _ _ hi, Below.heap_setCell _ _ _ _ hi]
  refine ⟨(keep _ (by omega)).trans h.b0, (keep _ (by omega)).trans h.b1, own_put h.row hk b, ?_⟩
  unfold putW
  exact ((((h.gr.gr_set (p := ⟨g, _, none⟩) (by show _ ≤ g; omega) _).gr_set (p := ⟨g, _, none⟩) (by show _ ≤ g; omega) _).gr_set (p := ⟨g, _, none⟩) (by show _ ≤ g; omega) _).gr_set (p := ⟨g, _, none⟩) (by show _ ≤ g; omega) _).gr_set (p := ⟨g, _, none⟩) (by show _ ≤ g; omega) _

end Go.Proofs.Ytblhnjoophhliaa
