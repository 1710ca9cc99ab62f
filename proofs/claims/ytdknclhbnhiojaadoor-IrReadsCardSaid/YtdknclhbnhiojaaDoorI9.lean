/- IrReads, walked. -/
import Derived.Test.YtdknclhbnhiojaaDoorI8
import Derived.Deep.RegionHeld3
import Derived.Deep.DeepCutAuto
namespace Go.Proofs.YtdknclhbnhiojaaDoor
open Go.RowKit
/-- The instruction in its block, what the list of arguments holds, and what was there ahead. -/
structure BxR (i : Ins) (w W : World) : Prop where
  box : BoxI i w.heap.size W
  v : VarsR W
  a : IntsAt W i.aa i.an i.ac i.args
  g : w.grownBy W none
theorem BxR.grown {i : Ins} {w W W' : World} (h : BxR i w W) (g : W.grownBy W' none) : BxR i w W' :=
  ⟨h.box.gr g, h.v.grown g, h.a.keep (CellsK.of g), grownBy_trans h.g g⟩
theorem BxR.drew {i : Ins} {w W : World} (h : BxR i w W) : BxR i w W.drew := ⟨h.box, h.v, h.a, h.g.gr_drew⟩
theorem BxR.drewN {i : Ins} {w W : World} (h : BxR i w W) (n : Nat) : BxR i w (W.drewN n) := ⟨h.box, h.v, h.a, gr_drewN h.g n⟩
theorem IntsAt.drew {w : World} {A : Option Addr} {n c : Nat} {l : List Int} (h : IntsAt w A n c l) : IntsAt w.drew A n c l := h
/-- One of the three answers, at the region's end. -/
def RdCut (i : Ins) (w : World) (s : Value) (wx : World) : Prop := s = .bool true ∧ BxR i w wx
set_option maxRecDepth 100000 in
set_option maxHeartbeats 4000000 in
theorem reads_walk (i : Ins) (pc : Int) (w : World) (hv : VarsR w) (hA : IntsAt w i.aa i.an i.ac i.args) (hlen : (readsI i).length * 8 ≤ 140737488355328) :
    Calls Tryd.prog 3 #[insV i, .int .i64 pc] w fun e w' => e = .returned (.bool true) ∧ w.grownBy w' none := by
  have HL := Lib.hid hlen
  have HX0 := Lib.hid (show BxR i w (w.alloc (.cells (insC i) 24)) from ⟨heap_alloc_new w _, hv.alloc _, hA.keep (CellsK.alloc _ _), by repeat (first | with_reducible exact grownBy_refl _ _ | with_reducible assumption | with_reducible refine World.grownBy.gr_drew ?_ | with_reducible refine World.grownBy.gr_set ?_ (by simp) _ | with_reducible refine gr_alloc ?_ _)⟩)
  have HR := Lib.hid (fun W (h : BxR i w W) => show Calls Tryd.prog 10 #[insV i] W _ from Reads_any i W h.v h.a HL.out)
  have HR8 := Lib.hid (fun W (h : BxR i w W) => show Calls Tryd.prog 11 #[insV i] W _ from r8_Reads_any i W h.a HL.out)
  have HN := Lib.hid (fun W => show Calls Tryd.prog 12 #[insV i, .int .i64 pc] W _ from Next_any i pc _ rfl W)
  have HN8 := Lib.hid (fun W => show Calls Tryd.prog 13 #[insV i, .int .i64 pc] W _ from r8_Next_any i pc _ rfl W)
  have HW := Lib.hid (fun W (h : BxR i w W) => show Calls Tryd.prog 14 #[insV i] W _ from Writes_any i W h.v)
  have HW8 := Lib.hid (fun W => show Calls Tryd.prog 15 #[insV i] W _ from r8_Writes_any i W)
  have HM := Lib.hid (show (readsI i).length ≤ maxLen by unfold maxLen; omega)
  have HM2 := Lib.hid (show (nextI i (IntKind.i64.wrap (pc + 1))).length ≤ maxLen by
    have : (nextI i (IntKind.i64.wrap (pc + 1))).length ≤ 2 := by unfold nextI; repeat' split
                                                                  all_goals simp
    unfold maxLen; omega)
  generalize readsI i = lr at *
  generalize nextI i (IntKind.i64.wrap (pc + 1)) = ln at *
  generalize wrI i = wv at *
  clear hlen hv hA
  unfold insV at *
  unfold insC at *
  go_enter Tryd.func3, Tryd.ntmps3
  go_wp2_with fail
  refine (shown_any _ HX0.out.v).mono ?_
  rintro e w1 ⟨rfl, hg1⟩
  have X1 := (HX0.out.grown hg1)
  clear hg1 HX0

  go_upto_region 2 with fail
  go_cut [6] (fun s wx => RdCut i w s wx)
  case first =>
    obtain ⟨c0, c1, c2, c3, c4, c5, c6, c7⟩ := X1.box.cells
    have X1d := X1.drew
    go_region_with
      (first
        | (go_at_call 10; refine (HR.out _ (by assumption)).mono ?_; rintro e w' ⟨A, n, c, rfl, hI, hg⟩; (try (replace hJ := hJ.keep (CellsK.of hg))); have hbx := BxR.grown (by assumption) hg; clear hg; obtain ⟨c0, c1, c2, c3, c4, c5, c6, c7⟩ := hbx.box.cells)
        | (go_at_call 11; refine (HR8.out _ (by assumption)).mono ?_; rintro e w' ⟨B, m, d, rfl, hJ, hg⟩; (try (replace hI := hI.keep (CellsK.of hg))); have hbx := BxR.grown (by assumption) hg; clear hg; obtain ⟨c0, c1, c2, c3, c4, c5, c6, c7⟩ := hbx.box.cells)
        | (go_at_call 9; refine (Ints_same _ _ _ _ _ _ lr _ (by assumption) (by assumption) HM.out).mono ?_; rintro e w' ⟨rfl, hg⟩; have hbx := BxR.grown (by assumption) hg; clear hg hI hJ))
    all_goals
      go_wp2_with fail
      go_meet
      exact ⟨rfl, by assumption⟩
  case rest =>
  obtain ⟨rfl, X2⟩ := hcut
  go_upto_region 3 with fail
  go_cut [7] (fun s wx => RdCut i w s wx)
  case first =>
    obtain ⟨c0, c1, c2, c3, c4, c5, c6, c7⟩ := X2.box.cells
    have X1d := X2.drew
    go_region_with
      (first
        | (go_at_call 12; refine (HN.out _).mono ?_; rintro e w' ⟨A, n, c, rfl, hI, hg⟩; (try (replace hJ := hJ.keep (CellsK.of hg))); have hbx := BxR.grown (by assumption) hg; clear hg; obtain ⟨c0, c1, c2, c3, c4, c5, c6, c7⟩ := hbx.box.cells)
        | (go_at_call 13; refine (HN8.out _).mono ?_; rintro e w' ⟨B, m, d, rfl, hJ, hg⟩; (try (replace hI := hI.keep (CellsK.of hg))); have hbx := BxR.grown (by assumption) hg; clear hg; obtain ⟨c0, c1, c2, c3, c4, c5, c6, c7⟩ := hbx.box.cells)
        | (go_at_call 9; refine (Ints_same _ _ _ _ _ _ ln _ (by assumption) (by assumption) HM2.out).mono ?_; rintro e w' ⟨rfl, hg⟩; have hbx := BxR.grown (by assumption) hg; clear hg hI hJ))
    all_goals
      go_wp2_with fail
      go_meet
      exact ⟨rfl, by assumption⟩
  case rest =>
  obtain ⟨rfl, X3⟩ := hcut
  obtain ⟨c0, c1, c2, c3, c4, c5, c6, c7⟩ := X3.box.cells
  have X3d := X3.drew
  go_wp2_with fail
  go_region_with
    (first
      | (go_at_call 14; refine (HW.out _ (by assumption)).mono ?_; rintro e w' ⟨rfl, hg⟩; have hbx := BxR.grown (by assumption) hg; clear hg; obtain ⟨c0, c1, c2, c3, c4, c5, c6, c7⟩ := hbx.box.cells)
      | (go_at_call 15; refine (HW8.out _).mono ?_; rintro e w' ⟨rfl, hg⟩; have hbx := BxR.grown (by assumption) hg; clear hg; obtain ⟨c0, c1, c2, c3, c4, c5, c6, c7⟩ := hbx.box.cells))
  all_goals
    go_wp2_with fail
    go_ret
    exact ⟨rfl, BxR.g (by assumption)⟩

end Go.Proofs.YtdknclhbnhiojaaDoor
