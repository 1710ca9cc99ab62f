/- scc: the heap's methods. -/
import Derived.Test.YtneehdjaaofjaaaEg
import Derived.Deep.DeepCutAuto
import Derived.BigQuiet
import Derived.Handy
namespace Go.Proofs.Ytneehdjaaofjaaa
open Go.RowKit
theorem load_is (m : Nat) (v : Value) (W : World) (h : W.cell? ⟨m, 0, none⟩ = some v) : (loadVar 47 ⟨m, 0, none⟩).run Try.prog W = .ok v W := by
  simp [go_sem, h]
/-- A method that the dynamic type has by a field of what it points to. -/
theorem method_of {P : Program} {t : TypeId} {v rv : Value} {name : String} {W : World} {fuel : Nat} (i : TypeInfo) (M : Method) (f : FuncId) (xt : TypeId) (x : Place) (e1 : (typeInfo t).run P W = .ok i W) (e2 : i.methods.find? (fun y => y.name == name) = some M)
    (e3 : (follow M.path.toList t (.val v)).run P W = .ok (xt, x) W) (e4 : M.func = some (f, false)) (e0 : M.path.isEmpty = false) (e5 : (receiverAt xt x false none).run P W = .ok rv W) : (method (fuel + 1) t v name).run P W = .ok (f, rv) W := by
  unfold method
  simp only [Sem.run_bind, e1, Result.andThen_ok, e2, e3, e4, e0, Bool.false_eq_true, if_false, e5, Sem.run_pure]
theorem recv_is (m : Nat) (v : Value) (W : World) (h : W.cell? ⟨m, 0, none⟩ = some v) : (receiverAt 47 (.var ⟨m, 0, none⟩) false none).run Try.prog W = .ok v W := by
  have e : (receiverAt 47 (.var ⟨m, 0, none⟩) false none).run Try.prog W = (loadVar 47 ⟨m, 0, none⟩).run Try.prog W := by kernel_rfl
  rw [e, load_is m v W h]
theorem meth_len (m : Nat) (v : Value) (W : World) (h : W.cell? ⟨m, 0, none⟩ = some v) : (method 210 46 (.pointer (some ⟨m, 0, none⟩)) "Len").run Try.prog W = .ok (25, v) W :=
  method_of ((Try.prog.info? 46).get (by kernel_rfl)) ((((Try.prog.info? 46).get (by kernel_rfl)).methods.find? (fun y => y.name == "Len")).get (by kernel_rfl)) 25 47 (.var ⟨m, 0, none⟩) (by kernel_rfl) (by kernel_rfl) (by kernel_rfl) (by kernel_rfl) (by kernel_rfl) (recv_is m v W h)
theorem meth_less (m : Nat) (v : Value) (W : World) (h : W.cell? ⟨m, 0, none⟩ = some v) : (method 210 46 (.pointer (some ⟨m, 0, none⟩)) "Less").run Try.prog W = .ok (75, v) W :=
  method_of ((Try.prog.info? 46).get (by kernel_rfl)) ((((Try.prog.info? 46).get (by kernel_rfl)).methods.find? (fun y => y.name == "Less")).get (by kernel_rfl)) 75 47 (.var ⟨m, 0, none⟩) (by kernel_rfl) (by kernel_rfl) (by kernel_rfl) (by kernel_rfl) (by kernel_rfl) (recv_is m v W h)
theorem meth_swap (m : Nat) (v : Value) (W : World) (h : W.cell? ⟨m, 0, none⟩ = some v) : (method 210 46 (.pointer (some ⟨m, 0, none⟩)) "Swap").run Try.prog W = .ok (79, v) W :=
  method_of ((Try.prog.info? 46).get (by kernel_rfl)) ((((Try.prog.info? 46).get (by kernel_rfl)).methods.find? (fun y => y.name == "Swap")).get (by kernel_rfl)) 79 47 (.var ⟨m, 0, none⟩) (by kernel_rfl) (by kernel_rfl) (by kernel_rfl) (by kernel_rfl) (by kernel_rfl) (recv_is m v W h)
theorem meth_push (p : Value) (W : World) : (method 210 46 p "Push").run Try.prog W = .ok (77, p) W := by kernel_rfl
theorem meth_pop (p : Value) (W : World) : (method 210 46 p "Pop").run Try.prog W = .ok (76, p) W := by kernel_rfl

end Go.Proofs.Ytneehdjaaofjaaa
