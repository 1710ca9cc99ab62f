/- GenCons: for every input the law returns true, and the arguments read as before. No condition. -/
import Derived.Test.YtajmkdbokdjmeaaGreatRows
import Derived.Test.YtajmkdbokdjmeaaGreatMkTop
namespace Go.Proofs.YtajmkdbokdjmeaaGreat.genCons
open Go.ChangeShapes Go.WideShapes Go.ChangeAt Go.RowKit
theorem gr_below {a b : World} (g : a.grownBy b none) : Below a.heap.size a b := ⟨g.os, g.tape, g.output, g.size, fun k hk => g.block k hk (by simp)⟩
set_option maxRecDepth 100000 in
theorem lifted (os : Os) (started : os.Started) (H : Type) (enc : TypeId × Value → H) :
    ReturnsInHanded {} Tryz.checked os 3 .any (Rows.genConsSpec.pre6 enc Tryz.prog Tryz.f3 Rows.genConsRow.domain false) (Rows.genConsSpec.post enc Tryz.prog Tryz.f3 false true false false) := by
  refine returnsInHanded_of_change_sized (C := Tryz.checked) own started (by kernel_rfl) Tryz.func3
    (ChangeSpec.witness6 (enc := enc) (C := Tryz.checked) false ⟨#[], #[.agg #[.slice none 0 0, .slice none 0 0, .int .i64 0]], []⟩ 8 (by kernel_rfl) (by kernel_rfl) (by kernel_rfl) (by kernel_rfl)) ?_
  intro W base args ds gs before hval0 hW hcnd hwt _
  have hval : ∀ (j : Nat) t v, Tryz.f3.params[j]? = some t → args[j]? = some v → Value.okWide Tryz.prog W .any base t v := hval0
  have hW' := hW
  obtain ⟨p, q, hA0, hV, rfl, hfz, hnd⟩ := hW
  have hA : DataW.TrodAll enc Tryz.prog W 0 (fun _ => true) true Tryz.f3.params.toList args.toList ds p := hA0
  rw [Tryz.params3] at hA hval
  obtain ⟨v0, vs0, d0, ds0, p0, q0, hargs, rfl, rfl, h0, r0⟩ := trodAll_cons hA
  obtain ⟨rfl, rfl, rfl⟩ := trodAll_nil r0
  obtain rfl : args = #[v0] := by cases args; simp_all
  obtain ⟨rfl, rfl⟩ := trodVars_none hV
  obtain ⟨i0, rfl, hI0⟩ := arg_prog hwt (hval 0 25 v0 rfl rfl) h0
  clear hA0 hval0
  try simp only [List.append_nil] at hW'
  try simp only [List.nil_append] at hW'
  have hlt0 : ∀ x ∈ p0, x.block < W.heap.size := fun x hx => hW'.lt x (by simp [hx])
  refine (cons_walk i0 W hI0).mono fun e W' ⟨he, g⟩ => ?_
  subst he
  have bel := gr_below g
  have t0 := Below.trod laidOut (by kernel_rfl) (of_decide_eq_true (by kernel_rfl)) h0 bel hlt0
  exact ⟨_, rfl, _, _, _, [], p0, [], hW', trodAll_mk1 (shut_bool Tryz.underlying4 _), (by have h := (trodAll_cons_mk t0 trodAll_mk0); (try simp only [List.append_nil] at h); (try simp only [List.nil_append] at h); exact h), rfl, bel.frame _, fun h => by cases h⟩
theorem over : Rows.genConsRow.holds Tryz.pinned (OpenSpec.ofChange Rows.genConsSpec) :=
  OpenClaim.holds_of_wide 3 Tryz.f3 rfl rfl rfl rfl rfl rfl rfl ⟨rfl, rfl, rfl, rfl, rfl⟩ rfl rfl rfl rfl rfl (by kernel_rfl) Tryz.func3 (by kernel_rfl)
    (of_decide_eq_true (by kernel_rfl)) (by unfold Func.isWrapper; first | (rw [if_pos (by decide +kernel)]; kernel_rfl) | (rw [if_neg (by decide +kernel)]; exact ⟨rfl, rfl⟩))
    (fun os started H enc _ => lifted os started H enc)
end Go.Proofs.YtajmkdbokdjmeaaGreat.genCons
namespace Go.Proofs.YtajmkdbokdjmeaaGreat
open Go.RowKit
theorem genCons_said : Rows.GenConsSaid := genCons.over

end Go.Proofs.YtajmkdbokdjmeaaGreat
