/- The document's Insn. -/
import Derived.Test.YtdknclhbnhiojaaDoorI20
namespace Go.Proofs.YtdknclhbnhiojaaDoor
open Go.RowKit
/-- The two ways to say it are one. -/
theorem ops_split (p : Prg) (f : Fun') (i : Ins) (h1 : 1 ≤ i.op) (h2 : i.op ≤ 20) : opsB p f i = (allB f.regs (readsI i) && ((!(wrB i.op) || inB i.a f.regs) && othB p f i)) := by
  rw [readsI_tab]
  obtain ⟨op, a, b, c, ww, n, sign, aa, an, ac, args⟩ := i
  simp only [] at h1 h2
  have hc : op = 1 ∨ op = 2 ∨ op = 3 ∨ op = 4 ∨ op = 5 ∨ op = 6 ∨ op = 7 ∨ op = 8 ∨ op = 9 ∨ op = 10 ∨ op = 11 ∨ op = 12 ∨ op = 13 ∨ op = 14 ∨ op = 15 ∨ op = 16 ∨ op = 17 ∨ op = 18 ∨ op = 19 ∨ op = 20 := by omega
  rcases hc with rfl | rfl | rfl | rfl | rfl | rfl | rfl | rfl | rfl | rfl | rfl | rfl | rfl | rfl | rfl | rfl | rfl | rfl | rfl | rfl
  all_goals
    simp [opsB, opsS, rowL, rowsT, letB, readL, opdB, tabR, allB, wrB, othB, Bool.and_assoc, Bool.and_comm, Bool.and_left_comm]
theorem rowL_ne {op : Int} (h1 : 1 ≤ op) (h2 : op ≤ 20) : rowL op ≠ [] := by
  have hc : op = 1 ∨ op = 2 ∨ op = 3 ∨ op = 4 ∨ op = 5 ∨ op = 6 ∨ op = 7 ∨ op = 8 ∨ op = 9 ∨ op = 10 ∨ op = 11 ∨ op = 12 ∨ op = 13 ∨ op = 14 ∨ op = 15 ∨ op = 16 ∨ op = 17 ∨ op = 18 ∨ op = 19 ∨ op = 20 := by omega
  rcases hc with rfl | rfl | rfl | rfl | rfl | rfl | rfl | rfl | rfl | rfl | rfl | rfl | rfl | rfl | rfl | rfl | rfl | rfl | rfl | rfl
  all_goals decide
theorem rowL_em {op : Int} (h : op < 1 ∨ 20 < op) : rowL op = [] := by
  by_cases h0 : op = 0
  · subst h0; decide
  · exact rowL_out (by omega)

end Go.Proofs.YtdknclhbnhiojaaDoor
