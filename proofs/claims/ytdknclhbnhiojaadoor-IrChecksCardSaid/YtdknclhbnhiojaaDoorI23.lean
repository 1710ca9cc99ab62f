/- The document's Insn, whatever the instruction. -/
import Derived.Test.YtdknclhbnhiojaaDoorI22
namespace Go.Proofs.YtdknclhbnhiojaaDoor
open Go.RowKit
set_option maxRecDepth 100000 in
set_option maxHeartbeats 4000000 in
theorem Insn_out (p : Prg) (f : Fun') (pc : Nat) (hk : pc < f.code.length) (w : World) (hf : FunOk w f) (h : f.code[pc].op < 1 ∨ 20 < f.code[pc].op) :
    Calls Tryd.prog 27 #[prgV p, funV f, .int .i64 pc] w fun e w' => e = .returned (.int .i64 1) ∧ w.grownBy w' none := by
  have hlc := hf.2.2.1
  unfold maxLen at hlc
  obtain ⟨ad, ha, c0, c1, c2, c3, c4, c5, c6, c7⟩ := ins_cells (hf.2.2.2.1.keep (CellsK.of (show w.grownBy ((w.alloc (.cells (prgC p) 34)).alloc (.cells (funC f) 43)) none by repeat (first | with_reducible exact grownBy_refl _ _ | with_reducible assumption | with_reducible refine World.grownBy.gr_drew ?_ | with_reducible refine World.grownBy.gr_set ?_ (by simp) _ | with_reducible refine gr_alloc ?_ _)))) hk
  generalize f.code[pc] = i at *
  have HFV := Lib.hid (show funV f = .agg #[.string f.name, .int .i64 f.regs, .int .i64 f.params, .slice f.la f.locals.length f.lc, .slice (some ad) f.code.length f.cc] by unfold funV funC; rw [ha])
  have HFC := Lib.hid (show funC f = #[.string f.name, .int .i64 f.regs, .int .i64 f.params, .slice f.la f.locals.length f.lc, .slice (some ad) f.code.length f.cc] by unfold funC; rw [ha])
  have hd : decide (i.op < 1) = true ∨ (decide (i.op < 1) = false ∧ decide (20 < i.op) = true) := by
    by_cases h1 : i.op < 1
    · exact .inl (decide_eq_true h1)
    · exact .inr ⟨decide_eq_false h1, decide_eq_true (by omega)⟩
  rw [HFV.out]
  rw [HFC.out] at c0 c1 c2 c3 c4 c5 c6 c7
  unfold prgC at c0 c1 c2 c3 c4 c5 c6 c7
  unfold prgV prgC
  clear hf ha h
  rcases hd with e1 | ⟨e1, e2⟩
  all_goals
    go_enter Tryd.func27, Tryd.ntmps27
    go_wp2_with fail
    go_ret
    exact ⟨rfl, by repeat (first | with_reducible exact grownBy_refl _ _ | with_reducible assumption | with_reducible refine World.grownBy.gr_drew ?_ | with_reducible refine World.grownBy.gr_set ?_ (by simp) _ | with_reducible refine gr_alloc ?_ _)⟩
theorem Insn_any (p : Prg) (f : Fun') (pc : Nat) (hk : pc < f.code.length) (w : World) (hp : PrgOk w p) (hf : FunOk w f) :
    Calls Tryd.prog 27 #[prgV p, funV f, .int .i64 pc] w fun e w' => e = .returned (.int .i64 (insE p f pc f.code[pc])) ∧ w.grownBy w' none := by
  by_cases h : f.code[pc].op < 1 ∨ 20 < f.code[pc].op
  · rw [insE_out h]
    exact Insn_out p f pc hk w hf h
  · exact Insn_in p f pc hk w hp hf (by omega) (by omega)

end Go.Proofs.YtdknclhbnhiojaaDoor
