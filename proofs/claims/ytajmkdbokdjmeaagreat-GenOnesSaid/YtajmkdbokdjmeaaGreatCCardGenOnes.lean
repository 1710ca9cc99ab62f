/- GenOnes: for every input the law returns true, and the arguments read as before. No condition. -/
import Derived.Test.YtajmkdbokdjmeaaGreatRows
import Derived.Test.YtajmkdbokdjmeaaGreatMkTop
import Derived.Test.YtajmkdbokdjmeaaGreatCKgO
namespace Go.Proofs.YtajmkdbokdjmeaaGreat.genOnes
open Go.ChangeShapes Go.WideShapes Go.ChangeAt Go.RowKit
theorem gr_below {a b : World} (g : a.grownBy b none) : Below a.heap.size a b := ⟨g.os, g.tape, g.output, g.size, fun k hk => g.block k hk (by simp)⟩
set_option maxRecDepth 100000 in
theorem lifted (os : Os) (started : os.Started) (H : Type) (enc : TypeId × Value → H) :
    ReturnsInHanded {} Tryz.checked os 4 .any (Rows.genOnesSpec.pre6 enc Tryz.prog Tryz.f4 Rows.genOnesRow.domain false) (Rows.genOnesSpec.post enc Tryz.prog Tryz.f4 false true false false) := by
  refine returnsInHanded_of_change_sized (C := Tryz.checked) own started (by kernel_rfl) Tryz.func4
    (ChangeSpec.witness6 (enc := enc) (C := Tryz.checked) false ⟨#[], #[.agg #[.slice none 0 0, .slice none 0 0, .int .i64 0], .int .u8 0], []⟩ 8 (by kernel_rfl) (by kernel_rfl) (by kernel_rfl) (by kernel_rfl)) ?_
  intro W base args ds gs before hval0 hW hcnd hwt _
  have hval : ∀ (j : Nat) t v, Tryz.f4.params[j]? = some t → args[j]? = some v → Value.okWide Tryz.prog W .any base t v := hval0
  have hW' := hW
  obtain ⟨p, q, hA0, hV, rfl, hfz, hnd⟩ := hW
  have hA : DataW.TrodAll enc Tryz.prog W 0 (fun _ => true) true Tryz.f4.params.toList args.toList ds p := hA0
  rw [Tryz.params4] at hA hval
  obtain ⟨v0, vs0, d0, ds0, p0, q0, hargs, rfl, rfl, h0, r0⟩ := trodAll_cons hA
  obtain ⟨v1, vs1, d1, ds1, p1, q1, rfl, rfl, rfl, h1, r1⟩ := trodAll_cons r0
  obtain ⟨rfl, rfl, rfl⟩ := trodAll_nil r1
  obtain rfl : args = #[v0, v1] := by cases args; simp_all
  obtain ⟨rfl, rfl⟩ := trodVars_none hV
  obtain ⟨i0, rfl, hI0⟩ := arg_prog hwt (hval 0 25 v0 rfl rfl) h0
  obtain ⟨i1, rfl, rfl, rfl, w1⟩ := open_int Tryz.underlying5 (hval 1 5 v1 rfl rfl) h1
  obtain ⟨n1, rfl⟩ : ∃ n : Nat, i1 = n := ⟨i1.toNat, by have := u8_nat w1; omega⟩
  have hn1 : n1 < 256 := by have := u8_nat w1; omega
  clear hA0 hval0
  try simp only [List.append_nil] at hW'
  try simp only [List.nil_append] at hW'
  have hlt0 : ∀ x ∈ p0, x.block < W.heap.size := fun x hx => hW'.lt x (by simp [hx])
  refine (ones_walk i0 (n1 : Int) (by omega) (by omega) W hI0).mono fun e W' ⟨he, g⟩ => ?_
  subst he
  have bel := gr_below g
  have t0 := Below.trod laidOut (by kernel_rfl) (of_decide_eq_true (by kernel_rfl)) h0 bel hlt0
  exact ⟨_, rfl, _, _, _, [], p0, [], hW', trodAll_mk1 (shut_bool Tryz.underlying4 _), (by have h := (trodAll_cons_mk t0 (trodAll_cons_mk (shut_int Tryz.underlying5 w1) trodAll_mk0)); (try simp only [List.append_nil] at h); (try simp only [List.nil_append] at h); exact h), rfl, bel.frame _, fun h => by cases h⟩
theorem over : Rows.genOnesRow.holds Tryz.pinned (OpenSpec.ofChange Rows.genOnesSpec) :=
  OpenClaim.holds_of_wide 4 Tryz.f4 rfl rfl rfl rfl rfl rfl rfl ⟨rfl, rfl, rfl, rfl, rfl⟩ rfl rfl rfl rfl rfl (by kernel_rfl) Tryz.func4 (by kernel_rfl)
    (of_decide_eq_true (by kernel_rfl)) (by unfold Func.isWrapper; first | (rw [if_pos (by decide +kernel)]; kernel_rfl) | (rw [if_neg (by decide +kernel)]; exact ⟨rfl, rfl⟩))
    (fun os started H enc _ => lifted os started H enc)
end Go.Proofs.YtajmkdbokdjmeaaGreat.genOnes
namespace Go.Proofs.YtajmkdbokdjmeaaGreat
open Go.RowKit
theorem genOnes_said : Rows.GenOnesSaid := genOnes.over

end Go.Proofs.YtajmkdbokdjmeaaGreat
