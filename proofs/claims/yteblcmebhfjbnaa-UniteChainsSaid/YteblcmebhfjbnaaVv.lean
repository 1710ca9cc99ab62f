/- Arguments of stage 14: pairs. -/
import Derived.Test.YteblcmebhfjbnaaZv
import Derived.Test.YteblcmebhfjbnaaV3
namespace Go.Proofs.Yteblcmebhfjbnaa
open Go.RowKit
open Go.ChangeShapes Go.WideShapes Go.ChangeAt Go.RowKit Go.Joins Go.Deep
theorem cPair : Try.prog.cellsOf 31 = 2 := by kernel_rfl
section
variable {H : Type} {enc : TypeId × Value → H} {W : World} {base : Nat}
set_option maxRecDepth 100000 in
theorem open_pair {n : Nat} {cs : List Value} {x : DataW H × List MemPlace} (h : DataW.trod enc Try.prog W 0 (fun _ => true) true n 31 cs = some x) : ∃ p : Int × Int, cs = (prC p).toList ∧ I64 p.1 ∧ I64 p.2 := by
  obtain ⟨xs, m, rfl, hx, hlen, hxl, hf⟩ := DataW.trod_struct Try.underlying31 h
  rw [cPair] at hlen
  have hxl' : xs.length = 2 := hxl
  clear hxl
  match cs, hlen, xs, hxl' with
  | [a0, a1], _, [y0, y1], _ =>
    have f0 : DataW.trod enc Try.prog W 0 (fun _ => true) true m 3 (([a0, a1].drop 0).take (Try.prog.cellsOf 3)) = some y0 := hf 0 _ rfl
    have f1 : DataW.trod enc Try.prog W 0 (fun _ => true) true m 3 (([a0, a1].drop 1).take (Try.prog.cellsOf 3)) = some y1 := hf 1 _ rfl
    rw [cInt] at f0 f1
    simp only [List.drop_zero, List.take_succ_cons, List.take_zero, List.drop_succ_cons] at f0 f1
    obtain ⟨n0, e0, _, w0⟩ := DataW.trod_int Try.underlying3 f0
    obtain ⟨n1, e1, _, w1⟩ := DataW.trod_int Try.underlying3 f1
    simp only [List.cons.injEq, and_true] at e0 e1
    subst e0 e1
    exact ⟨(n0, n1), rfl, i64_wf w0, i64_wf w1⟩
theorem arg_pairs {v : Value} {d : DataW H} {p : List MemPlace} (hv : Value.okWide Try.prog W .any base 22 v)
    (h : DataW.Trod enc Try.prog W 0 (fun _ => true) true 22 v d p) : ∃ (oa : Option Addr) (cap : Nat) (l : List (Int × Int)), v = .slice oa l.length cap ∧ StrAt prC 2 W oa l ∧ l.length ≤ cap ∧ ∀ x ∈ l, I64 x.1 ∧ I64 x.2 :=
  arg_structs Try.underlying22 cPair (fun _ _ _ h => open_pair h) (fun _ => rfl) hv h
end

end Go.Proofs.Yteblcmebhfjbnaa
