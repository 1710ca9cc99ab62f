/- ir: head. -/
import Derived.Test.YtdknclhbnhiojaaDoorI11
namespace Go.Proofs.YtdknclhbnhiojaaDoor
open Go.RowKit
def funcOf (p : Prg) (n : Int) : Int := if 0 ≤ n then (p.sites[n.toNat]?.map (·.func)).getD 0 else 0
theorem funcOf_in {p : Prg} {k : Nat} (h : k < p.sites.length) : funcOf p k = p.sites[k].func := by
  unfold funcOf
  rw [if_pos (by omega)]
  simp [h]
def locB (p : Prg) (n : Nat) (k : Int) : Bool := (kindP p k == 2) && (funcOf p k == (n : Int))
def bigB (f : Fun') : Bool := decide (f.code.length = 0 ∨ 4000 < f.code.length ∨ 4000 < f.regs ∨ f.regs < f.params ∨ f.params < 0)
def locE (p : Prg) (n : Nat) (f : Fun') : Int := if f.locals.all (locB p n) then 0 else 8
theorem locE_yes {p : Prg} {n : Nat} {f : Fun'} (h : f.locals.all (locB p n) = true) : locE p n f = 0 := by unfold locE; rw [h]; rfl
theorem locE_no {p : Prg} {n : Nat} {f : Fun'} (h : f.locals.all (locB p n) = false) : locE p n f = 8 := by unfold locE; rw [h]; rfl
def headF (p : Prg) (n : Nat) (f : Fun') : Int := if bigB f then 5 else locE p n f
def HdRel (p : Prg) (n : Nat) (f : Fun') (w : World) (v : Value) (wr : World) : Prop :=
  ∃ k : Nat, k ≤ f.locals.length ∧ v = .int .i64 k ∧ (f.locals.take k).all (locB p n) = true ∧ BoxC (prgC p) 34 w.heap.size wr ∧ BoxC (funC f) 43 (w.heap.size + 1) wr ∧ w.grownBy wr none
set_option maxRecDepth 100000 in
set_option maxHeartbeats 4000000 in
theorem head_big (p : Prg) (n : Nat) (hn : n < p.fns.length) (w : World) (hp : PrgOk w p) (hb : bigB p.fns[n] = true) :
    Calls Tryd.prog 24 #[prgV p, .int .i64 n] w fun e w' => e = .returned (.int .i64 5) ∧ w.grownBy w' none := by
  have hl2 := hp.2.1
  obtain ⟨ad, ha, c0, c1, c2, c3, c4⟩ := fun_cells (hp.2.2.2.1.keep (CellsK.alloc w (.cells (prgC p) 34))) hn
  obtain ⟨_, hfl, hfc, _, _⟩ := hp.2.2.2.2 _ (List.getElem_mem hn)
  clear hp
  unfold maxLen at hl2 hfl hfc
  unfold bigB at hb
  have hb := of_decide_eq_true hb
  unfold prgC at *
  unfold prgV prgC
  generalize p.fns[n] = f at *
  generalize hfa : p.fa = fa at *
  subst ha
  clear hfa
  by_cases h1 : f.code.length = 0
  · have h1' : f.code.length ≤ 0 := by omega
    clear hb
    rw [h1] at c4
    clear h1
    go_enter Tryd.func24, Tryd.ntmps24
    go_wp2_with fail
    go_ret
    exact ⟨rfl, by repeat (first | with_reducible exact grownBy_refl _ _ | with_reducible assumption | with_reducible refine World.grownBy.gr_drew ?_ | with_reducible refine World.grownBy.gr_set ?_ (by simp) _ | with_reducible refine gr_alloc ?_ _)⟩
  by_cases h2 : 4000 < f.code.length
  · have e1 : ((f.code.length : Int) == 0) = false := beq_eq_false_iff_ne.2 (by omega)
    have e2 : decide (4000 < (f.code.length : Int)) = true := decide_eq_true (by omega)
    clear hb h1 h2
    go_enter Tryd.func24, Tryd.ntmps24
    go_wp2_with fail
    go_ret
    exact ⟨rfl, by repeat (first | with_reducible exact grownBy_refl _ _ | with_reducible assumption | with_reducible refine World.grownBy.gr_drew ?_ | with_reducible refine World.grownBy.gr_set ?_ (by simp) _ | with_reducible refine gr_alloc ?_ _)⟩
  by_cases h3 : 4000 < f.regs
  · have e1 : ((f.code.length : Int) == 0) = false := beq_eq_false_iff_ne.2 (by omega)
    have e2 : decide (4000 < (f.code.length : Int)) = false := decide_eq_false (by omega)
    have e3 : decide (4000 < f.regs) = true := decide_eq_true (by omega)
    clear hb h1 h2 h3
    go_enter Tryd.func24, Tryd.ntmps24
    go_wp2_with fail
    go_ret
    exact ⟨rfl, by repeat (first | with_reducible exact grownBy_refl _ _ | with_reducible assumption | with_reducible refine World.grownBy.gr_drew ?_ | with_reducible refine World.grownBy.gr_set ?_ (by simp) _ | with_reducible refine gr_alloc ?_ _)⟩
  by_cases h4 : f.regs < f.params
  · have e1 : ((f.code.length : Int) == 0) = false := beq_eq_false_iff_ne.2 (by omega)
    have e2 : decide (4000 < (f.code.length : Int)) = false := decide_eq_false (by omega)
    have e3 : decide (4000 < f.regs) = false := decide_eq_false (by omega)
    have e4 : decide (f.regs < f.params) = true := decide_eq_true (by omega)
    clear hb h1 h2 h3 h4
    go_enter Tryd.func24, Tryd.ntmps24
    go_wp2_with fail
    go_ret
    exact ⟨rfl, by repeat (first | with_reducible exact grownBy_refl _ _ | with_reducible assumption | with_reducible refine World.grownBy.gr_drew ?_ | with_reducible refine World.grownBy.gr_set ?_ (by simp) _ | with_reducible refine gr_alloc ?_ _)⟩
  · have h5 : f.params < 0 := by omega
    have e1 : ((f.code.length : Int) == 0) = false := beq_eq_false_iff_ne.2 (by omega)
    have e2 : decide (4000 < (f.code.length : Int)) = false := decide_eq_false (by omega)
    have e3 : decide (4000 < f.regs) = false := decide_eq_false (by omega)
    have e4 : decide (f.regs < f.params) = false := decide_eq_false (by omega)
    have e5 : decide (f.params < 0) = true := decide_eq_true (by omega)
    clear hb h1 h2 h3 h4 h5
    go_enter Tryd.func24, Tryd.ntmps24
    go_wp2_with fail
    go_ret
    exact ⟨rfl, by repeat (first | with_reducible exact grownBy_refl _ _ | with_reducible assumption | with_reducible refine World.grownBy.gr_drew ?_ | with_reducible refine World.grownBy.gr_set ?_ (by simp) _ | with_reducible refine gr_alloc ?_ _)⟩
set_option maxRecDepth 100000 in
set_option maxHeartbeats 4000000 in
theorem head_small (p : Prg) (n : Nat) (hn : n < p.fns.length) (w : World) (hp : PrgOk w p) (hb : bigB p.fns[n] = false) :
    Calls Tryd.prog 24 #[prgV p, .int .i64 n] w fun e w' => e = .returned (.int .i64 (locE p n p.fns[n])) ∧ w.grownBy w' none := by
  have HP := Lib.hid hp
  have hl1 := hp.1
  have hl2 := hp.2.1
  obtain ⟨ad, ha, c0, c1, c2, c3, c4⟩ := fun_cells (hp.2.2.2.1.keep (CellsK.alloc w (.cells (prgC p) 34))) hn
  obtain ⟨hloc, hfl, hfc, _, _⟩ := hp.2.2.2.2 _ (List.getElem_mem hn)
  have HL := Lib.hid hloc
  clear hp hloc
  unfold maxLen at hl1 hl2 hfl hfc
  unfold bigB at hb
  have hb := of_decide_eq_false hb
  have HB1 := Lib.hid (BoxC.new w (prgC p) 34)
  have HBf := Lib.hid (BoxC.new (w.alloc (.cells (prgC p) 34)) (funC p.fns[n]) 43)
  have HPC : prgV p = .agg #[.slice p.sa p.sites.length p.sc, .slice p.fa p.fns.length p.fc, .int .i64 p.main] := rfl
  have HPV := Lib.hid HPC
  rw [HPC]
  clear HPC
  unfold prgC at c0 c1 c2 c3 c4
  generalize p.fns[n] = f at *
  rw [ha] at c0 c1 c2 c3 c4 ⊢
  have HA := Lib.hid ha
  have HPV2 := Lib.hid (HPV.out.trans (by rw [ha]))
  clear ha HPV
  have e1 : ((f.code.length : Int) == 0) = false := beq_eq_false_iff_ne.2 (by omega)
  have e2 : decide (4000 < (f.code.length : Int)) = false := decide_eq_false (by omega)
  have e3 : decide (4000 < f.regs) = false := decide_eq_false (by omega)
  have e4 : decide (f.regs < f.params) = false := decide_eq_false (by omega)
  have e5 : decide (f.params < 0) = false := decide_eq_false (by omega)
  clear hb
  go_enter Tryd.func24, Tryd.ntmps24
  go_wp2_with fail
  go_loopw [43] (fun v wr => HdRel p n f w v wr) (fun v _ => f.locals.length - (intOf v).toNat)
  case atStart =>
    refine ⟨0, Nat.zero_le _, rfl, rfl, ?_, ?_, by repeat (first | with_reducible exact grownBy_refl _ _ | with_reducible assumption | with_reducible refine World.grownBy.gr_drew ?_ | with_reducible refine World.grownBy.gr_set ?_ (by simp) _ | with_reducible refine gr_alloc ?_ _)⟩
    · have h := (HB1.out).gr (gr_alloc (grownBy_refl _ _) (.cells (funC f) 43))
      unfold prgC at h ⊢; rw [HA.out] at h ⊢; exact h
    · have h := HBf.out
      unfold prgC at h; rw [HA.out] at h
      rw [show (w.alloc (.cells #[.slice p.sa p.sites.length p.sc, .slice (some ad) p.fns.length p.fc, .int .i64 p.main] 34)).heap.size = w.heap.size + 1 by simp] at h
      exact h
  case round =>
    obtain ⟨k, hk, rfl, hall, hbp, hbf, hgr⟩ := hrel
    have HAL := Lib.hid hall
    have HG := Lib.hid hgr
    have HBP := Lib.hid hbp
    have HBF := Lib.hid hbf
    obtain ⟨b0, b1, b2⟩ := boxP hbp
    rw [HA.out] at b1
    obtain ⟨f0, f1, f2, f3, f4⟩ := boxF hbf
    clear hall
    by_cases hkl : k < f.locals.length
    · obtain ⟨ld, hla, hx⟩ := (HL.out.keep (CellsK.of hgr)).at_ hkl
      have HTK := Lib.hid (show (f.locals.take (k + 1)).all (locB p n) = locB p n f.locals[k] by rw [List.take_succ_eq_append_getElem hkl, List.all_append, HAL.out]; simp)
      have HNO := Lib.hid (show locB p n f.locals[k] = false → f.locals.all (locB p n) = false from fun h => List.all_eq_false.2 ⟨_, List.getElem_mem hkl, by simp [h]⟩)
      generalize f.locals[k] = x at *
      generalize hle : f.la = la at *
      subst hla
      clear hgr hbp hbf
      go_wp2_with fail
      refine (show Calls Tryd.prog 29 #[.agg #[.slice p.sa p.sites.length p.sc, .slice (some ad) p.fns.length p.fc, .int .i64 p.main], .int .i64 x, .int .i64 2] wr _ from by have := isSite_any p x 2 (by decide) wr (HP.out.keep (CellsK.of HG.out)); rw [HPV2.out] at this; exact this).mono ?_
      rintro e w1 ⟨rfl, hg1⟩
      have HG1 := Lib.hid (grownBy_trans HG.out hg1)
      have HBP1 := Lib.hid (HBP.out.gr hg1)
      have HBF1 := Lib.hid (HBF.out.gr hg1)
      clear hx b0 b1 b2 f0 f1 f2 f3 f4
      by_cases hk2 : kindP p x = 2
      · have e2 : (kindP p x == 2) = true := by simpa using hk2
        have hin : 0 ≤ x ∧ x < (p.sites.length : Int) := by
          by_cases h : x < 0 ∨ (p.sites.length : Int) ≤ x
          · rw [kindP_out h] at hk2; exact absurd hk2 (by decide)
          · omega
        obtain ⟨j, rfl⟩ : ∃ j : Nat, x = j := ⟨x.toNat, by omega⟩
        have hj : j < p.sites.length := by omega
        obtain ⟨sd, hsd, _, _, s2, _⟩ := sit_cells ((HP.out.keep (CellsK.of HG1.out)).2.2.1) hj
        have HF := Lib.hid (funcOf_in hj)
        have b0 := (boxP HBP1.out).1
        clear hin hk2 hg1
        generalize p.sites[j] = s at *
        generalize hsa : p.sa = sa at *
        subst hsd
        by_cases hfn : s.func = (n : Int)
        · have e3 : (s.func != (n : Int)) = false := by simpa using hfn
          have HLB := Lib.hid (show locB p n (j : Int) = true by unfold locB; rw [e2, HF.out, hfn]; simp)
          clear hfn
          rw [e2]
          go_wp2_with fail
          rw [← hsa]
          go_roundw
          case rel => exact ⟨k + 1, by omega, by go_num, by rw [HTK.out, HLB.out], HBP1.out, HBF1.out, HG1.out⟩
          case measure => simp [intOf]; omega
        · have e3 : (s.func != (n : Int)) = true := by simpa using hfn
          have HLB := Lib.hid (show locB p n (j : Int) = false by unfold locB; rw [e2, HF.out]; simpa using hfn)
          clear hfn
          rw [e2]
          go_wp2_with fail
          go_ret
          exact ⟨ret_i64 (a := 8) (locE_no (HNO.out HLB.out)).symm, HG1.out⟩
      · have e2 : (kindP p x == 2) = false := by simpa using hk2
        have HLB := Lib.hid (show locB p n x = false by unfold locB; rw [e2]; rfl)
        clear hk2 hg1
        rw [e2]
        go_wp2_with fail
        go_ret
        exact ⟨ret_i64 (a := 8) (locE_no (HNO.out HLB.out)).symm, HG1.out⟩
    · have hkk : k = f.locals.length := by omega
      subst hkk
      have HALL := Lib.hid (show f.locals.all (locB p n) = true by have := HAL.out; rwa [List.take_length] at this)
      clear hgr hbp hbf
      go_wp2_with fail
      go_ret
      exact ⟨ret_i64 (a := 0) (locE_yes HALL.out).symm, HG.out⟩
theorem head_any (p : Prg) (n : Nat) (hn : n < p.fns.length) (w : World) (hp : PrgOk w p) :
    Calls Tryd.prog 24 #[prgV p, .int .i64 n] w fun e w' => e = .returned (.int .i64 (headF p n p.fns[n])) ∧ w.grownBy w' none := by
  rcases hb : bigB p.fns[n]
  · rw [show headF p n p.fns[n] = locE p n p.fns[n] by unfold headF; rw [hb]; rfl]
    exact head_small p n hn w hp hb
  · rw [show headF p n p.fns[n] = 5 by unfold headF; rw [hb]; rfl]
    exact head_big p n hn w hp hb

end Go.Proofs.YtdknclhbnhiojaaDoor
