/- ir: Check. -/
import Derived.Test.YtdknclhbnhiojaaDoorI16
import Derived.Deep.RegionHeld3
import Derived.Deep.DeepCutAuto
namespace Go.Proofs.YtdknclhbnhiojaaDoor
open Go.RowKit
def triV (x : Int × Int × Int) : Value := .tuple #[.int .i64 x.1, .int .i64 x.2.1, .int .i64 x.2.2]
theorem ret_tri {a b c : Int} {x : Int × Int × Int} (h : x = (a, b, c)) : Ending.returned (.tuple #[.int .i64 a, .int .i64 b, .int .i64 c]) = .returned (triV x) := by rw [h]; rfl
/-- What is wrong with a function, at which place; zeros: nothing. -/
def funE (p : Prg) (k : Nat) (f : Fun') : Int × Int := if headF p k f = 0 then bodyF p f 0 f.code else (0, headF p k f)
def fnsP (p : Prg) : Nat → List Fun' → Int × Int × Int
  | _, [] => (0, 0, 0)
  | k, f :: r => if (funE p k f).2 = 0 then fnsP p (k + 1) r else (k, funE p k f)
def checkP (p : Prg) : Int × Int × Int :=
  if 200 < p.fns.length ∨ 600 < p.sites.length then (0, 0, 5) else if inB p.main p.fns.length && eachB p then fnsP p 0 p.fns else (0, 0, 8)
theorem fnsP_go {p : Prg} {k : Nat} (hk : k < p.fns.length) (h : (funE p k p.fns[k]).2 = 0) : fnsP p k (p.fns.drop k) = fnsP p (k + 1) (p.fns.drop (k + 1)) := by
  rw [List.drop_eq_getElem_cons hk]
  show (if (funE p k p.fns[k]).2 = 0 then _ else _) = _
  rw [if_pos h]
theorem fnsP_stop {p : Prg} {k : Nat} {pc e : Int} (hk : k < p.fns.length) (h : funE p k p.fns[k] = (pc, e)) (he : e ≠ 0) : fnsP p k (p.fns.drop k) = ((k : Int), pc, e) := by
  rw [List.drop_eq_getElem_cons hk]
  show (if (funE p k p.fns[k]).2 = 0 then _ else _) = _
  rw [h, if_neg he]
def CkRel (p : Prg) (w : World) (v : Value) (wr : World) : Prop :=
  ∃ k : Nat, k ≤ p.fns.length ∧ v = .int .i64 k ∧ fnsP p k (p.fns.drop k) = fnsP p 0 p.fns ∧ w.grownBy wr none ∧ BoxC (prgC p) 34 w.heap.size wr
set_option maxRecDepth 100000 in
set_option maxHeartbeats 8000000 in
theorem check_loop (p : Prg) (w : World) (hv : VarsR w) (hp : PrgOk w p) (h1 : p.fns.length ≤ 200) (h2 : p.sites.length ≤ 600) (hin : inB p.main p.fns.length = true) (hea : eachB p = true) :
    Calls Tryd.prog 16 #[prgV p] w fun e w' => e = .returned (triV (fnsP p 0 p.fns)) ∧ w.grownBy w' none := by
  have HV := Lib.hid hv
  have HP := Lib.hid hp
  have hg0 : w.grownBy (w.alloc (.cells (prgC p) 34)) none := by repeat (first | with_reducible exact grownBy_refl _ _ | with_reducible assumption | with_reducible refine World.grownBy.gr_drew ?_ | with_reducible refine World.grownBy.gr_set ?_ (by simp) _ | with_reducible refine gr_alloc ?_ _)
  have HB0 := Lib.hid (BoxC.new w (prgC p) 34)
  have HG0 := Lib.hid hg0
  have HIN := Lib.hid hin
  have HEA := Lib.hid hea
  have e1 : decide (200 < (p.fns.length : Int)) = false := decide_eq_false (by omega)
  have e2 : decide (600 < (p.sites.length : Int)) = false := decide_eq_false (by omega)
  clear hv hp hg0 hin hea
  unfold prgV
  unfold prgC at HB0 HG0
  unfold prgC
  go_enter Tryd.func16, Tryd.ntmps16
  go_wp2_with fail
  refine (within_any _ _ _).mono ?_
  rintro e w1 ⟨rfl, rfl⟩
  rw [HIN.out]
  go_wp2_with fail
  refine (show Calls Tryd.prog 23 #[.agg #[.slice p.sa p.sites.length p.sc, .slice p.fa p.fns.length p.fc, .int .i64 p.main]] _ _ from siteEach_any p _ (HP.out.keep (CellsK.of HG0.out))).mono ?_
  rintro e w1 ⟨rfl, hg1⟩
  rw [HEA.out]
  have HG1 := Lib.hid (grownBy_trans HG0.out hg1)
  have HB1 := Lib.hid (show BoxC (prgC p) 34 w.heap.size w1 from BoxC.gr HB0.out hg1)
  obtain ⟨b0, b1, b2⟩ := boxP HB1.out
  clear hg1 HB0 HG0 e1 e2
  go_wp2_with fail
  go_loopw [34] (fun v wr => CkRel p w v wr) (fun v _ => p.fns.length - (intOf v).toNat)
  case atStart => exact ⟨0, Nat.zero_le _, rfl, rfl, HG1.out, HB1.out⟩
  case round =>
    obtain ⟨k, hk, rfl, hfn, hgr, hbx⟩ := hrel
    have HFN := Lib.hid hfn
    have HG := Lib.hid hgr
    have HB := Lib.hid hbx
    clear hfn b0 b1 b2
    by_cases hlt : k < p.fns.length
    · obtain ⟨b0, b1, b2⟩ := boxP hbx
      have HF := Lib.hid (HP.out.2.2.2.2 _ (List.getElem_mem hlt))
      have HGO := Lib.hid (fun (h : (funE p k p.fns[k]).2 = 0) => (fnsP_go hlt h).symm.trans HFN.out)
      have HST := Lib.hid (fun (pc e : Int) (h : funE p k p.fns[k] = (pc, e)) (he : e ≠ 0) => HFN.out.symm.trans (fnsP_stop hlt h he))
      have HHD := Lib.hid (head_any p k hlt wr (HP.out.keep (CellsK.of hgr)))
      clear hgr hbx
      go_wp2_with fail
      refine (show Calls Tryd.prog 24 #[.agg #[.slice p.sa p.sites.length p.sc, .slice p.fa p.fns.length p.fc, .int .i64 p.main], .int .i64 (k : Int)] wr _ from HHD.out).mono ?_
      rintro e w3 ⟨rfl, hg3⟩
      have HG3 := Lib.hid (grownBy_trans HG.out hg3)
      have HB3 := Lib.hid (HB.out.gr hg3)
      clear hg3 HG HB HHD b0 b1 b2
      by_cases hh : headF p k p.fns[k] = 0
      · rw [hh]
        have HFE := Lib.hid (show funE p k p.fns[k] = bodyF p p.fns[k] 0 p.fns[k].code by unfold funE; rw [if_pos hh])
        clear hh
        obtain ⟨b0, b1, b2⟩ := boxP HB3.out
        obtain ⟨ad, ha, f0, f1, f2, f3, f4⟩ := fun_cells ((HP.out.keep (CellsK.of HG3.out)).2.2.2.1) hlt
        have HBD := Lib.hid (fun W (g : w.grownBy W none) => show Calls Tryd.prog 25 #[.agg #[.slice p.sa p.sites.length p.sc, .slice (some ad) p.fns.length p.fc, .int .i64 p.main], funV p.fns[k]] W _ from by
          have h := body_any p p.fns[k] W (HV.out.grown g) (HP.out.keep (CellsK.of g)) (HF.out.keep (CellsK.of g))
          rw [show prgV p = .agg #[.slice p.sa p.sites.length p.sc, .slice (some ad) p.fns.length p.fc, .int .i64 p.main] by unfold prgV prgC; rw [ha]] at h
          exact h)
        unfold funV funC at HBD
        generalize p.fns[k] = f at *
        rw [ha] at b1
        generalize bodyF p f 0 f.code = x at *
        obtain ⟨pc, er⟩ := x
        have HA := Lib.hid ha
        clear ha
        by_cases her : er = 0
        · subst her
          have HFZ := Lib.hid (HGO.out (by rw [HFE.out]))
          go_wp2_with fail
          go_region_with ((go_at_call 25; refine (HBD.out _ HG3.out.gr_drew).mono ?_; rintro e w4 ⟨rfl, hg4⟩; have HG4 := Lib.hid (grownBy_trans HG3.out.gr_drew hg4); have HB4 := Lib.hid (BoxC.gr (show BoxC (prgC p) 34 w.heap.size w3.drew from HB3.out) hg4); clear hg4; unfold pairV))
          all_goals
            go_wp2_with fail
            try rw [← HA.out]
            go_roundw
            case rel => exact ⟨k + 1, by omega, by go_num, HFZ.out, HG4.out, HB4.out⟩
            case measure => simp [intOf]; omega
        · have e1 : (er != 0) = true := by simpa using her
          have HNE := Lib.hid her
          clear her
          go_wp2_with fail
          go_region_with ((go_at_call 25; refine (HBD.out _ HG3.out.gr_drew).mono ?_; rintro e w4 ⟨rfl, hg4⟩; have HG4 := Lib.hid (grownBy_trans HG3.out.gr_drew hg4); have HB4 := Lib.hid (BoxC.gr (show BoxC (prgC p) 34 w.heap.size w3.drew from HB3.out) hg4); clear hg4; unfold pairV))
          all_goals
            go_wp2_with fail
            refine bodyPost_ret (v := .tuple #[.int .i64 (k : Int), .int .i64 pc, .int .i64 er]) (by simp [results, Tryd.results16, go_sem]) rfl ⟨ret_tri (HST.out pc er HFE.out HNE.out), HG4.out⟩
      · have e1 : (headF p k p.fns[k] != 0) = true := by simpa using hh
        have HNE := Lib.hid hh
        have HFE := Lib.hid (show funE p k p.fns[k] = (0, headF p k p.fns[k]) by unfold funE; rw [if_neg hh])
        generalize headF p k p.fns[k] = hd at *
        clear hh
        go_wp2_with fail
        refine bodyPost_ret (v := .tuple #[.int .i64 (k : Int), .int .i64 0, .int .i64 hd]) (by simp [results, Tryd.results16, go_sem]) rfl ⟨ret_tri (HST.out 0 hd HFE.out HNE.out), HG3.out⟩
    · have hkk : k = p.fns.length := by omega
      subst hkk
      have HALL := Lib.hid (show fnsP p 0 p.fns = (0, 0, 0) by have h := HFN.out; rw [List.drop_length] at h; exact h.symm)
      clear hgr hbx
      go_wp2_with fail
      refine bodyPost_ret (v := .tuple #[.int .i64 0, .int .i64 0, .int .i64 0]) (by simp [results, Tryd.results16, go_sem]) rfl ⟨ret_tri HALL.out, HG.out⟩

end Go.Proofs.YtdknclhbnhiojaaDoor
