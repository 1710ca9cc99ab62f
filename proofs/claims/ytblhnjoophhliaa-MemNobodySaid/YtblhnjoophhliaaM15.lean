/- MemNobody, walked. -/
import Derived.Test.YtblhnjoophhliaaM14
namespace Go.Proofs.Ytblhnjoophhliaa
open Go.RowKit
set_option maxRecDepth 100000 in
set_option maxHeartbeats 4000000 in
theorem nobody_walk (p : Val) (w : World) :
    Calls Try.prog 7 #[valV p] w fun e w' => e = .returned (.bool true) ∧ w.grownBy w' none := by
  obtain ⟨pn, pb, pf⟩ := p
  unfold valV valC
  dsimp only
  have HV0 := Lib.hid (VB.new3 w pn pb pf)
  go_enter Try.func7, Try.ntmps7
  go_wp2_with fail
  refine (shown_any _).mono ?_
  rintro e w1 ⟨rfl, g1⟩
  have HV1 := Lib.hid (HV0.out.grown g1)
  clear g1 HV0
  go_wp2_with fail
  refine (alloc_nobody 0 8 true _).mono ?_
  rintro e w2 ⟨rfl, rfl⟩
  obtain ⟨x0, x1, x2, hz⟩ := VB.reads HV1.out
  go_wp2_with fail
  refine (show Calls Try.prog 17 #[.pointer none, .agg #[.int .i64 pn, .int .i64 pb, .int .i64 0], .int .i64 8] w1 _ from load_nobody ⟨pn, pb, 0⟩ 8 w1 rfl).mono ?_
  rintro e w3 ⟨rfl, g3⟩
  have HV3 := Lib.hid (HV1.out.grown (gr_alloc g3 (.cells #[.int .i64 0, .int .i64 0, .int .i64 0] 29)))
  clear x0 x1 x2 hz g3 HV1
  obtain ⟨x0, x1, x2, hz⟩ := VB.reads HV3.out
  unfold valV valC val0
  go_wp2_with fail
  refine (block_nobody pb _).mono ?_
  rintro e w4 ⟨rfl, g4⟩
  have HV4 := Lib.hid (HV3.out.grown g4)
  clear x0 x1 x2 hz g4 HV3
  obtain ⟨x0, x1, x2, hz⟩ := VB.reads HV4.out
  go_wp2_with fail
  refine (bytes_nobody pb _).mono ?_
  rintro e w5 ⟨rfl, rfl⟩
  go_wp2_with fail
  refine (end_nobody pb _).mono ?_
  rintro e w6 ⟨rfl, rfl⟩
  go_wp2_with fail
  go_ret
  exact ⟨rfl, HV4.out.gr⟩

end Go.Proofs.Ytblhnjoophhliaa
