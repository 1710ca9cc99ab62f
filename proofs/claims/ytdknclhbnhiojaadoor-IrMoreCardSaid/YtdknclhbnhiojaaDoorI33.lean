/- IrMore: the program with one function more than it was, in memory. -/
import Derived.Test.YtdknclhbnhiojaaDoorI32
namespace Go.Proofs.YtdknclhbnhiojaaDoor
open Go.RowKit
theorem more_ok {p : Prg} {k g c g6 c6 B B6 bf : Nat} {f : Fun'} {w w6 : World} (hp : PrgOk w p) (hf : p.fns[k]? = some f) (hl : f.code.length < 4000) (hgr : w.grownBy w6 none)
    (hrow : w6.ownsRow B 43 5 (.slice (some ⟨g, 0, none⟩) p.fns.length c) p.fns.length (flatC funC p.fns))
    (hcode : w6.ownsRow B6 24 8 (.slice (some ⟨g6, 0, none⟩) (f.code.length + 1) c6) (f.code.length + 1) (flatC insC (f.code ++ [retI])))
    (n1 : g ≠ bf) (hwg : w.heap.size < g) (hwB : w.heap.size < B) (hwbf : w.heap.size < bf) (hB6 : bf < B6) (hgB : g < B6) {W : World}
    (hW : W = (((((((w6.setCell ⟨bf, 4, none⟩ (.slice (some ⟨g6, 0, none⟩) (f.code.length + 1) c6)).setCell ⟨g, k * 5, none⟩ (.string f.name)).setCell ⟨g, k * 5 + 1, none⟩ (.int .i64 (f.regs + 1))).setCell ⟨g, k * 5 + 2, none⟩ (.int .i64 f.params)).setCell ⟨g, k * 5 + 3, none⟩ (.slice f.la f.locals.length f.lc)).setCell ⟨g, k * 5 + 4, none⟩ (.slice (some ⟨g6, 0, none⟩) (f.code.length + 1) c6)).setCell ⟨w.heap.size, 1, none⟩ (.slice (some ⟨g, 0, none⟩) p.fns.length c))) :
    PrgOk W (moreP p k (moreF f (some ⟨g6, 0, none⟩) c6) (some ⟨g, 0, none⟩) c) ∧ w.grownBy W none := by
  have hG : w.grownBy W none := by
    subst hW
    exact ((((((hgr.gr_set (p := ⟨bf, 4, none⟩) (Nat.le_of_lt hwbf) _).gr_set (p := ⟨g, k * 5, none⟩) (Nat.le_of_lt hwg) _).gr_set (p := ⟨g, k * 5 + 1, none⟩) (Nat.le_of_lt hwg) _).gr_set (p := ⟨g, k * 5 + 2, none⟩) (Nat.le_of_lt hwg) _).gr_set (p := ⟨g, k * 5 + 3, none⟩) (Nat.le_of_lt hwg) _).gr_set (p := ⟨g, k * 5 + 4, none⟩) (Nat.le_of_lt hwg) _).gr_set (p := ⟨w.heap.size, 1, none⟩) (Nat.le_refl _) _
  have hk := hp.keep (CellsK.of hG)
  have hcl : (moreF f (some ⟨g6, 0, none⟩) c6).code.length = f.code.length + 1 := by show (f.code ++ [retI]).length = _; simp
  -- the code's row
  have hc1 : W.ownsRow B6 24 8 (.slice (some ⟨g6, 0, none⟩) (f.code ++ [retI]).length c6) (f.code ++ [retI]).length (flatC insC (f.code ++ [retI])) := by
    rw [show (f.code ++ [retI]).length = f.code.length + 1 by simp]
    subst hW
    exact RowKit.ownsRow_setCell_below (RowKit.ownsRow_setCell_below (RowKit.ownsRow_setCell_below (RowKit.ownsRow_setCell_below (RowKit.ownsRow_setCell_below (RowKit.ownsRow_setCell_below (RowKit.ownsRow_setCell_below hcode (a := ⟨bf, 4, none⟩) hB6 _) (a := ⟨g, k * 5, none⟩) hgB _) (a := ⟨g, k * 5 + 1, none⟩) hgB _) (a := ⟨g, k * 5 + 2, none⟩) hgB _) (a := ⟨g, k * 5 + 3, none⟩) hgB _) (a := ⟨g, k * 5 + 4, none⟩) hgB _) (a := ⟨w.heap.size, 1, none⟩) (by show w.heap.size < B6; omega) _
  -- the functions' row
  have hr1 : W.ownsRow B 43 5 (.slice (some ⟨g, 0, none⟩) (p.fns.set k (moreF f (some ⟨g6, 0, none⟩) c6)).length c) (p.fns.set k (moreF f (some ⟨g6, 0, none⟩) c6)).length (flatC funC (p.fns.set k (moreF f (some ⟨g6, 0, none⟩) c6))) := by
    rw [List.length_set]
    obtain ⟨d1, d2, hd, e1, e2⟩ := flat_set hf
    rw [e2]
    rw [e1] at hrow
    have h7 := ownsRow_setCell_other hrow (a := ⟨bf, 4, none⟩) (by simp [Value.ownBlock]; exact n1) (.slice (some ⟨g6, 0, none⟩) (f.code.length + 1) c6)
    have h8 := row_put5 (x0 := .string f.name) (x1 := .int .i64 f.regs) (x2 := .int .i64 f.params) (x3 := .slice f.la f.locals.length f.lc) (x4 := .slice f.ca f.code.length f.cc) h7 hd (.string f.name) (.int .i64 (f.regs + 1)) (.int .i64 f.params) (.slice f.la f.locals.length f.lc) (.slice (some ⟨g6, 0, none⟩) (f.code.length + 1) c6)
    have h9 := RowKit.ownsRow_setCell_below h8 (a := ⟨w.heap.size, 1, none⟩) hwB (.slice (some ⟨g, 0, none⟩) p.fns.length c)
    rw [← hW] at h9
    have hv : (funC (moreF f (some ⟨g6, 0, none⟩) c6)).toList = [.string f.name, .int .i64 (f.regs + 1), .int .i64 f.params, .slice f.la f.locals.length f.lc, .slice (some ⟨g6, 0, none⟩) (f.code.length + 1) c6] := by
      unfold funC
      rw [hcl]
      rfl
    rw [hv]
    exact h9
  have hfm := List.mem_of_getElem? hf
  have hfo : FunOk W f := hk.2.2.2.2 f hfm
  refine ⟨⟨hk.1, by show (p.fns.set k _).length ≤ maxLen; rw [List.length_set]; exact hk.2.1, hk.2.2.1, StrAt.of_own funC_size hr1, fun x hx => ?_⟩, hG⟩
  rcases List.mem_or_eq_of_mem_set hx with h | rfl
  · exact hk.2.2.2.2 x h
  · refine ⟨hfo.1, hfo.2.1, by rw [hcl]; unfold maxLen; omega, StrAt.of_own insC_size hc1, fun i hi => ?_⟩
    rcases List.mem_append.1 hi with h | h
    · exact hfo.2.2.2.2 i h
    · obtain rfl := List.mem_singleton.1 h
      exact ⟨IntsAt.nil W, by show 0 * 8 ≤ _; omega⟩

end Go.Proofs.YtdknclhbnhiojaaDoor
