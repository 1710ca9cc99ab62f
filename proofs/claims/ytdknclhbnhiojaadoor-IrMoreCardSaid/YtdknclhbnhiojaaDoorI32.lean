/- A row of functions: one of them turned; blocks that hold just these cells, one of them turned. -/
import Derived.Test.YtdknclhbnhiojaaDoorI29
namespace Go.Proofs.YtdknclhbnhiojaaDoor
open Go.RowKit
theorem row_put5 {w : World} {B e g n cap k : Nat} {c1 c2 : List Value} {x0 x1 x2 x3 x4 : Value} (h : w.ownsRow B e 5 (.slice (some ⟨g, 0, none⟩) n cap) n (c1 ++ ([x0, x1, x2, x3, x4] ++ c2))) (hk : c1.length = k * 5) (y0 y1 y2 y3 y4 : Value) :
    (((((w.setCell ⟨g, k * 5, none⟩ y0).setCell ⟨g, k * 5 + 1, none⟩ y1).setCell ⟨g, k * 5 + 2, none⟩ y2).setCell ⟨g, k * 5 + 3, none⟩ y3).setCell ⟨g, k * 5 + 4, none⟩ y4).ownsRow B e 5 (.slice (some ⟨g, 0, none⟩) n cap) n (c1 ++ ([y0, y1, y2, y3, y4] ++ c2)) := by
  refine ⟨by have := h.1; simp at this ⊢; omega, ?_⟩
  rcases h.2 with ⟨h0, _⟩ | ⟨g', cap', cur, hv, hg, hh, hn, hc, hs, ht⟩
  · cases h0
  · simp only [Value.slice.injEq, Option.some.injEq, Addr.mk.injEq] at hv
    obtain ⟨⟨rfl, _, _⟩, _, rfl⟩ := hv
    refine .inr ⟨g, cap, ((((cur.setIfInBounds (k * 5) y0).setIfInBounds (k * 5 + 1) y1).setIfInBounds (k * 5 + 2) y2).setIfInBounds (k * 5 + 3) y3).setIfInBounds (k * 5 + 4) y4, rfl, hg, ?_, hn, hc, by simpa using hs, ?_⟩
    · simp [World.setCell, Array.getElem?_modify, hh]
    · simp only [Array.toList_setIfInBounds, List.take_set, ht]
      rw [List.set_append_right _ _ (by omega), hk, Nat.sub_self]
      rw [List.set_append_right _ _ (by omega), hk, show k * 5 + 1 - k * 5 = 1 by omega]
      rw [List.set_append_right _ _ (by omega), hk, show k * 5 + 2 - k * 5 = 2 by omega]
      rw [List.set_append_right _ _ (by omega), hk, show k * 5 + 3 - k * 5 = 3 by omega]
      rw [List.set_append_right _ _ (by omega), hk, show k * 5 + 4 - k * 5 = 4 by omega]
      rfl
theorem row_froz {w : World} {B e g n cap size : Nat} {xs : List Value} (h : w.ownsRow B e size (.slice (some ⟨g, 0, none⟩) n cap) n xs) (o : Nat) : w.frozen? ⟨g, o, none⟩ = false := by
  rcases h.2 with ⟨h0, _⟩ | ⟨g', cap', cur, hv, hg, hh, _⟩
  · cases h0
  · simp only [Value.slice.injEq, Option.some.injEq, Addr.mk.injEq] at hv
    obtain ⟨⟨rfl, _, _⟩, _, rfl⟩ := hv
    simp [World.frozen?, hh]
theorem BoxC.froz {C : Array Value} {t b : Nat} {w : World} (h : BoxC C t b w) (o : Nat) : w.frozen? ⟨b, o, none⟩ = false := by unfold BoxC at h; simp [World.frozen?, h]
theorem BoxC.set {C : Array Value} {t b : Nat} {w : World} (h : BoxC C t b w) (o : Nat) (v : Value) : BoxC (C.setIfInBounds o v) t b (w.setCell ⟨b, o, none⟩ v) := by unfold BoxC at *; simp [World.setCell, Array.getElem?_modify, h]
theorem BoxC.other {C : Array Value} {t b : Nat} {w : World} (h : BoxC C t b w) {a : Addr} (ha : a.block ≠ b) (v : Value) : BoxC C t b (w.setCell a v) := by unfold BoxC at *; rw [Below.heap_setCell _ _ _ _ (fun e => ha e.symm)]; exact h
/-- The row with one function turned. -/
theorem flat_set {l : List Fun'} {k : Nat} {f : Fun'} (h : l[k]? = some f) : ∃ c1 c2, c1.length = k * 5 ∧ flatC funC l = c1 ++ ((funC f).toList ++ c2) ∧ ∀ f', flatC funC (l.set k f') = c1 ++ ((funC f').toList ++ c2) := by
  have hk : k < l.length := (List.getElem?_eq_some_iff.1 h).1
  have e : l = l.take k ++ f :: l.drop (k + 1) := by
    obtain ⟨_, e1⟩ := List.getElem?_eq_some_iff.1 h
    rw [← e1, ← List.drop_eq_getElem_cons hk, List.take_append_drop]
  have hl : (l.take k).length = k := by rw [List.length_take]; omega
  refine ⟨flatC funC (l.take k), flatC funC (l.drop (k + 1)), by rw [flat_len funC_size, hl], ?_, fun f' => ?_⟩
  · conv => lhs; rw [e]
    rw [flat_app]; rfl
  · conv => lhs; rw [e]
    rw [List.set_append_right _ _ (by omega), hl, Nat.sub_self, List.set_cons_zero, flat_app]; rfl

end Go.Proofs.YtdknclhbnhiojaaDoor
