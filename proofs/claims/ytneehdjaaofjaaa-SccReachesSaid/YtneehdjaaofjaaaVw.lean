/- Arguments of stages 15 and 19: edges. -/
import Derived.Test.YtneehdjaaofjaaaZv
import Derived.Test.YtneehdjaaofjaaaW0
namespace Go.Proofs.Ytneehdjaaofjaaa
open Go.RowKit
open Go.ChangeShapes Go.WideShapes Go.ChangeAt Go.RowKit Go.Joins Go.Deep
theorem cEdge : Try.prog.cellsOf 33 = 3 := by kernel_rfl
section
variable {H : Type} {enc : TypeId × Value → H} {W : World} {base : Nat}
set_option maxRecDepth 100000 in
theorem open_edge {n : Nat} {cs : List Value} {x : DataW H × List MemPlace} (h : DataW.trod enc Try.prog W 0 (fun _ => true) true n 33 cs = some x) : ∃ e : Edg, cs = (edC e).toList ∧ True := by
  obtain ⟨xs, m, rfl, hx, hlen, hxl, hf⟩ := DataW.trod_struct Try.underlying33 h
  rw [cEdge] at hlen
  have hxl' : xs.length = 3 := hxl
  clear hxl
  match cs, hlen, xs, hxl' with
  | [a0, a1, a2], _, [y0, y1, y2], _ =>
    have f0 : DataW.trod enc Try.prog W 0 (fun _ => true) true m 3 (([a0, a1, a2].drop 0).take (Try.prog.cellsOf 3)) = some y0 := hf 0 _ rfl
    have f1 : DataW.trod enc Try.prog W 0 (fun _ => true) true m 3 (([a0, a1, a2].drop 1).take (Try.prog.cellsOf 3)) = some y1 := hf 1 _ rfl
    have f2 : DataW.trod enc Try.prog W 0 (fun _ => true) true m 3 (([a0, a1, a2].drop 2).take (Try.prog.cellsOf 3)) = some y2 := hf 2 _ rfl
    rw [cInt] at f0 f1 f2
    simp only [List.drop_zero, List.take_succ_cons, List.take_zero, List.drop_succ_cons] at f0 f1 f2
    obtain ⟨n0, e0, _, w0⟩ := DataW.trod_int Try.underlying3 f0
    obtain ⟨n1, e1, _, w1⟩ := DataW.trod_int Try.underlying3 f1
    obtain ⟨n2, e2, _, w2⟩ := DataW.trod_int Try.underlying3 f2
    simp only [List.cons.injEq, and_true] at e0 e1 e2
    subst e0 e1 e2
    exact ⟨⟨n0, n1, n2⟩, rfl, trivial⟩
theorem arg_edges {v : Value} {d : DataW H} {p : List MemPlace} (hv : Value.okWide Try.prog W .any base 22 v)
    (h : DataW.Trod enc Try.prog W 0 (fun _ => true) true 22 v d p) : ∃ (oa : Option Addr) (cap : Nat) (l : List Edg), v = .slice oa l.length cap ∧ EdsAt W oa l ∧ l.length ≤ cap ∧ (oa = none → cap = 0) := by
  obtain ⟨oa, cap, l, e, h1, h2, _⟩ := arg_structs Try.underlying22 cEdge (fun _ _ _ h => open_edge h) (fun _ => rfl) hv h
  refine ⟨oa, cap, l, e, h1, h2, fun hn => ?_⟩
  subst hn
  obtain ⟨fuel, hf⟩ := h
  subst e
  rcases open_slice Try.underlying22 hf with ⟨hcs, _⟩ | ⟨ad, len', cap', mm, n', D, Pl, hcs, _⟩
  · simp [Value.cells] at hcs
    exact hcs.2
  · simp [Value.cells] at hcs
/-- An argument that is an edge. -/
theorem arg_edge {v : Value} {d : DataW H} {p : List MemPlace} (hv : Value.okWide Try.prog W .any base 33 v) (h : DataW.Trod enc Try.prog W 0 (fun _ => true) true 33 v d p) :
    ∃ e : Edg, v = .agg #[.int .i64 e.fr, .int .i64 e.pc, .int .i64 e.to] ∧ True := by
  unfold Value.okWide at hv
  rw [Try.underlying33] at hv
  obtain ⟨cs, rfl, _, _⟩ := hv
  obtain ⟨fuel, hf⟩ := h
  obtain ⟨i, hc, _⟩ := open_edge hf
  refine ⟨i, ?_, trivial⟩
  have : cs.toList = (edC i).toList := hc
  rw [← Array.toArray_toList (xs := cs), this]
  rfl
end

end Go.Proofs.Ytneehdjaaofjaaa
