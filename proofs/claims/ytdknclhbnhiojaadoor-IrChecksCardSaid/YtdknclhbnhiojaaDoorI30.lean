/- IrChecks, walked. -/
import Derived.Test.YtdknclhbnhiojaaDoorI28
namespace Go.Proofs.YtdknclhbnhiojaaDoor
open Go.RowKit
set_option maxRecDepth 100000 in
set_option maxHeartbeats 16000000 in
theorem checks_walk (p : Prg) (w : World) (hv : VarsR w) (hp : PrgOk w p) :
    Calls Tryd.prog 4 #[prgV p] w fun e w' => e = .returned (.bool true) ∧ w.grownBy w' none := by
  have HV := Lib.hid hv
  have HP := Lib.hid hp
  have hg0 : w.grownBy (w.alloc (.cells (prgC p) 34)) none := by repeat (first | with_reducible exact grownBy_refl _ _ | with_reducible assumption | with_reducible refine World.grownBy.gr_drew ?_ | with_reducible refine World.grownBy.gr_set ?_ (by simp) _ | with_reducible refine gr_alloc ?_ _)
  have HB0 := Lib.hid (BoxC.new w (prgC p) 34)
  have HG0 := Lib.hid hg0
  clear hv hp hg0
  unfold prgV
  unfold prgC at HB0 HG0
  unfold prgC
  go_enter Tryd.func4, Tryd.ntmps4
  go_wp2_with fail
  refine (shown_any _ (HV.out.grown HG0.out)).mono ?_
  rintro e w1 ⟨rfl, hg1⟩
  have HG1 := Lib.hid (grownBy_trans HG0.out hg1)
  have HB1 := Lib.hid (show BoxC (prgC p) 34 w.heap.size w1 from BoxC.gr HB0.out hg1)
  obtain ⟨b0, b1, b2⟩ := boxP HB1.out
  clear hg1 HB0 HG0
  go_wp2_with fail
  refine (show Calls Tryd.prog 16 #[.agg #[.slice p.sa p.sites.length p.sc, .slice p.fa p.fns.length p.fc, .int .i64 p.main]] w1 _ from check_any p w1 (HV.out.grown HG1.out) (HP.out.keep (CellsK.of HG1.out))).mono ?_
  rintro e w2 ⟨rfl, hg2⟩
  have HG2 := Lib.hid (grownBy_trans HG1.out hg2)
  have HB2 := Lib.hid (HB1.out.gr hg2)
  have HR := Lib.hid (fun W (h : w.grownBy W none) => show Calls Tryd.prog 17 #[.agg #[.slice p.sa p.sites.length p.sc, .slice p.fa p.fns.length p.fc, .int .i64 p.main]] W _ from refCheck_any p W (HP.out.keep (CellsK.of h)))
  unfold triV
  unfold triV at HR
  generalize checkP p = t at *
  obtain ⟨t1, t2, t3⟩ := t
  clear hg2 HG1 HB1 b0 b1 b2
  obtain ⟨b0, b1, b2⟩ := boxP HB2.out
  go_wp2_with fail
  refine (HR.out _ HG2.out).mono ?_
  rintro e w3 ⟨rfl, hg3⟩
  have HG3 := Lib.hid (grownBy_trans HG2.out hg3)
  clear hg3 HG2 HB2 HR b0 b1 b2
  go_wp2_with fail
  go_ret
  exact ⟨rfl, HG3.out⟩

end Go.Proofs.YtdknclhbnhiojaaDoor
