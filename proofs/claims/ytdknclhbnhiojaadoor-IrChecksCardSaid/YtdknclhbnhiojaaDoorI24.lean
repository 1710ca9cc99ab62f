/- The document's Check. -/
import Derived.Test.YtdknclhbnhiojaaDoorI24r
namespace Go.Proofs.YtdknclhbnhiojaaDoor
open Go.RowKit
theorem bigB_and {f : Fun'} (h : bigB f = true) : f.code.length = 0 ∨ 4000 < f.code.length ∨ 4000 < f.regs ∨ f.regs < f.params ∨ f.params < 0 := of_decide_eq_true h
theorem bigB_not {f : Fun'} (h : bigB f = false) : ¬ (f.code.length = 0 ∨ 4000 < f.code.length ∨ 4000 < f.regs ∨ f.regs < f.params ∨ f.params < 0) := of_decide_eq_false h
theorem funE_big {p : Prg} {k : Nat} {f : Fun'} (h : bigB f = true) : funE p k f = (0, 5) := by
  have e : headF p k f = 5 := by unfold headF; rw [h]; rfl
  unfold funE; rw [e]; rfl
theorem funE_no {p : Prg} {k : Nat} {f : Fun'} (h : bigB f = false) (h2 : f.locals.all (locB p k) = false) : funE p k f = (0, 8) := by
  have e : headF p k f = 8 := by unfold headF; rw [h]; exact locE_no h2
  unfold funE; rw [e]; rfl
theorem funE_yes {p : Prg} {k : Nat} {f : Fun'} (h : bigB f = false) (h2 : f.locals.all (locB p k) = true) : funE p k f = bodyF p f 0 f.code := by
  have e : headF p k f = 0 := by unfold headF; rw [h]; exact locE_yes h2
  unfold funE; rw [e]; rfl
theorem checkP_no {p : Prg} (h1 : p.fns.length ≤ 200) (h2 : p.sites.length ≤ 600) (h : (inB p.main p.fns.length && eachB p) = false) : checkP p = (0, 0, 8) := by
  unfold checkP; rw [if_neg (by omega), if_neg (by rw [h]; decide)]
theorem checkP_yes {p : Prg} (h1 : p.fns.length ≤ 200) (h2 : p.sites.length ≤ 600) (h : (inB p.main p.fns.length && eachB p) = true) : checkP p = fnsP p 0 p.fns := by
  unfold checkP; rw [if_neg (by omega), if_pos h]
/-- The cells that a round over locals reads. -/
structure LcBox (p : Prg) (f : Fun') (b bf : Nat) (w0 w1 W : World) : Prop where
  hp : BoxC (prgC p) 34 b W
  hf : BoxC (funC f) 43 bf W
  k : CellsK w1 W
  g : w0.grownBy W none
theorem LcBox.gr {p : Prg} {f : Fun'} {b bf : Nat} {w0 w1 W W' : World} (h : LcBox p f b bf w0 w1 W) (g : W.grownBy W' none) : LcBox p f b bf w0 w1 W' := ⟨h.hp.gr g, h.hf.gr g, h.k.trans (CellsK.of g), grownBy_trans h.g g⟩
theorem LcBox.drew {p : Prg} {f : Fun'} {b bf : Nat} {w0 w1 W : World} (h : LcBox p f b bf w0 w1 W) : LcBox p f b bf w0 w1 W.drew := ⟨h.hp, h.hf, h.k, h.g.gr_drew⟩
def SrRel (p : Prg) (w : World) (v : Value) (wr : World) : Prop := ∃ k : Nat, k ≤ p.sites.length ∧ v = .int .i64 k ∧ sitesB p k = true ∧ BoxC (prgC p) 34 w.heap.size wr ∧ w.grownBy wr none
def LcRel (p : Prg) (n : Nat) (f : Fun') (w : World) (bf : Nat) (v : Value) (wr : World) : Prop :=
  ∃ j : Nat, j ≤ f.locals.length ∧ v = .int .i64 j ∧ (f.locals.take j).all (locB p n) = true ∧ BoxC (prgC p) 34 w.heap.size wr ∧ BoxC (funC f) 43 bf wr ∧ w.grownBy wr none
def CdRel (p : Prg) (f : Fun') (w : World) (bf : Nat) (v : Value) (wr : World) : Prop :=
  ∃ j : Nat, j ≤ f.code.length ∧ v = .int .i64 j ∧ bodyF p f j (f.code.drop j) = bodyF p f 0 f.code ∧ BoxC (prgC p) 34 w.heap.size wr ∧ BoxC (funC f) 43 bf wr ∧ w.grownBy wr none
set_option maxRecDepth 100000 in
set_option maxHeartbeats 16000000 in
theorem refCheck_main (p : Prg) (w : World) (hp : PrgOk w p) (h1 : p.fns.length ≤ 200) (h2 : p.sites.length ≤ 600) (hin : inB p.main p.fns.length = true) (hle : p.fns.length ≤ p.sites.length) :
    Calls Tryd.prog 17 #[prgV p] w fun e w' => e = .returned (triV (checkP p)) ∧ w.grownBy w' none := by
  have HP := Lib.hid hp
  have hg0 : w.grownBy (w.alloc (.cells (prgC p) 34)) none := by repeat (first | with_reducible exact grownBy_refl _ _ | with_reducible assumption | with_reducible refine World.grownBy.gr_drew ?_ | with_reducible refine World.grownBy.gr_set ?_ (by simp) _ | with_reducible refine gr_alloc ?_ _)
  have HB0 := Lib.hid (BoxC.new w (prgC p) 34)
  have HG0 := Lib.hid hg0
  have hmm : 0 ≤ p.main ∧ p.main < p.fns.length := by unfold inB at hin; exact of_decide_eq_true hin
  have HNOC := Lib.hid (fun (h : sitesB p p.sites.length = false) => checkP_no h1 h2 (by rw [hin]; unfold eachB; rw [h]; simp))
  have HYESC := Lib.hid (fun (h : sitesB p p.sites.length = true) => checkP_yes h1 h2 (by rw [hin]; unfold eachB; rw [h, decide_eq_true hle]; rfl))
  have m1 : decide (200 < (p.fns.length : Int)) = false := decide_eq_false (by omega)
  have m2 : decide (600 < (p.sites.length : Int)) = false := decide_eq_false (by omega)
  have m3 : decide (p.main < 0) = false := decide_eq_false (by omega)
  have m4 : decide ((p.fns.length : Int) ≤ p.main) = false := decide_eq_false (by omega)
  have m5 : ¬ p.sites.length < p.fns.length := by omega
  clear hp hg0 hin hmm
  unfold prgV
  unfold prgC at HB0 HG0
  unfold prgC
  go_enter Tryd.func17, Tryd.ntmps17
  go_wp2_with fail
  go_loopw [5] (fun v wr => SrRel p w v wr) (fun v _ => p.sites.length - (intOf v).toNat)
  case atStart => exact ⟨0, Nat.zero_le _, rfl, rfl, HB0.out, HG0.out⟩
  case round =>
    obtain ⟨k, hk, rfl, hsb, hbox, hgr⟩ := hrel
    have HS := Lib.hid hsb
    have HG := Lib.hid hgr
    have HB := Lib.hid hbox
    clear hsb m1 m2 m3 m4 m5
    obtain ⟨b0, b1, b2⟩ := boxP hbox
    by_cases hkl : k < p.sites.length
    · obtain ⟨sd, hsd, c0, _⟩ := sit_cells (HP.out.2.2.1.keep (CellsK.of hgr)) hkl
      have HK := Lib.hid (kindP_in hkl)
      generalize p.sites[k] = s at *
      generalize hsa : p.sa = sa at *
      subst hsd
      clear hgr hbox
      by_cases h4 : s.kind = 4
      · have e4 : (s.kind == 4) = true := by simpa using h4
        have N4 := Lib.hid (show kindP p (k : Int) = 4 by rw [HK.out]; exact h4)
        clear h4
        by_cases hkf : k < p.fns.length
        · go_wp2_with fail
          go_quiet (fail)
          go_wp2_with fail
          go_roundw
          case rel => exact ⟨k + 1, by omega, by go_num, by rw [sitesB_succ, HS.out, Bool.true_and]; simp [N4.out, hkf], HB.out.gr (gr_drewN (grownBy_refl _ _) _), gr_drewN HG.out _⟩
          case measure => simp [intOf]; omega
        · go_wp2_with fail
          go_quiet (fail)
          go_wp2_with fail
          refine bodyPost_ret (v := .tuple #[.int .i64 0, .int .i64 0, .int .i64 8]) (by simp [results, Tryd.results17, go_sem]) rfl ⟨ret_tri (HNOC.out (sitesB_false hkl (by simp [N4.out, hkf]))), gr_drewN HG.out _⟩
      · have e4 : (s.kind == 4) = false := by simpa using h4
        have N4 := Lib.hid (show ¬ kindP p (k : Int) = 4 by rw [HK.out]; exact h4)
        clear h4
        by_cases hkf : k < p.fns.length
        · go_wp2_with fail
          go_quiet (fail)
          go_wp2_with fail
          refine bodyPost_ret (v := .tuple #[.int .i64 0, .int .i64 0, .int .i64 8]) (by simp [results, Tryd.results17, go_sem]) rfl ⟨ret_tri (HNOC.out (sitesB_false hkl (by simp [N4.out, hkf]))), gr_drewN HG.out _⟩
        · go_wp2_with fail
          go_quiet (fail)
          go_wp2_with fail
          go_roundw
          case rel => exact ⟨k + 1, by omega, by go_num, by rw [sitesB_succ, HS.out, Bool.true_and]; simp [N4.out, hkf], HB.out.gr (gr_drewN (grownBy_refl _ _) _), gr_drewN HG.out _⟩
          case measure => simp [intOf]; omega
    · have hkk : k = p.sites.length := by omega
      subst hkk
      have HCK := Lib.hid (HYESC.out HS.out)
      clear hgr hbox HNOC HYESC hle
      go_wp2_with fail
      go_loopw [6] (fun v wr => CkRel p w v wr) (fun v _ => p.fns.length - (intOf v).toNat)
      case atStart => exact ⟨0, Nat.zero_le _, rfl, rfl, HG.out, HB.out⟩
      case round =>
        obtain ⟨k, hk, rfl, hfn, hgr, hbx⟩ := hrel
        have HFN := Lib.hid hfn
        have HG := Lib.hid hgr
        have HB := Lib.hid hbx
        clear hfn b0 b1 b2
        obtain ⟨b0, b1, b2⟩ := boxP hbx
        by_cases hlt : k < p.fns.length
        · obtain ⟨ad, ha, f0, f1, f2, f3, f4⟩ := fun_cells (HP.out.2.2.2.1.keep (CellsK.of hgr)) hlt
          have HFK := Lib.hid (HP.out.2.2.2.2 _ (List.getElem_mem hlt))
          have HGO := Lib.hid (fun (h : (funE p k p.fns[k]).2 = 0) => (fnsP_go hlt h).symm.trans HFN.out)
          have HST := Lib.hid (fun (pc e : Int) (h : funE p k p.fns[k] = (pc, e)) (he : e ≠ 0) => HFN.out.symm.trans (fnsP_stop hlt h he))
          generalize p.fns[k] = f at *
          rw [ha] at b1
          clear ha
          have hbl := lt_of_heap hbx
          have HGF := Lib.hid (show w.grownBy (wr.alloc (.cells (funC f) 43)) none from gr_alloc hgr _)
          have HBF := Lib.hid (show BoxC (funC f) 43 wr.heap.size (wr.alloc (.cells (funC f) 43)) from BoxC.new wr _ _)
          have HBP := Lib.hid (show BoxC (prgC p) 34 w.heap.size (wr.alloc (.cells (funC f) 43)) from hbx.gr (gr_alloc (grownBy_refl _ _) _))
          have hfl := HFK.out.2.1
          have hfc := HFK.out.2.2.1
          unfold maxLen at hfl hfc
          unfold funC at HGF HBF HBP
          clear hgr hbx
          rcases hbg' : bigB f
          · have hbg := bigB_not hbg'
            have HBG := Lib.hid hbg'
            have e1 : ((f.code.length : Int) == 0) = false := beq_eq_false_iff_ne.2 (by omega)
            have e2 : decide (4000 < (f.code.length : Int)) = false := decide_eq_false (by omega)
            have e3 : decide (4000 < f.regs) = false := decide_eq_false (by omega)
            have e4 : decide (f.regs < f.params) = false := decide_eq_false (by omega)
            have e5 : decide (f.params < 0) = false := decide_eq_false (by omega)
            have HNOL := Lib.hid (fun (h : f.locals.all (locB p k) = false) => HCK.out.trans (HST.out 0 8 (funE_no HBG.out h) (by decide)))
            have HFY := Lib.hid (fun (h : f.locals.all (locB p k) = true) => funE_yes (p := p) (k := k) HBG.out h)
            clear hbg hbg'
            go_wp2_with fail
            generalize wr.heap.size = bf at *
            go_loopw [8] (fun v wx => LcRel p k f w bf v wx) (fun v _ => f.locals.length - (intOf v).toNat)
            case atStart => exact ⟨0, Nat.zero_le _, rfl, rfl, HBP.out, HBF.out, HGF.out⟩
            case round =>
              obtain ⟨j, hj, rfl, hall, hbp, hbf, hgx⟩ := hrel
              have HAL := Lib.hid hall
              have HG3 := Lib.hid hgx
              have HBP3 := Lib.hid hbp
              have HBF3 := Lib.hid hbf
              clear hall e1 e2 e3 e4 e5 b0 b1 b2 f0 f1 f2 f3 f4
              obtain ⟨b0, b1, b2⟩ := boxP hbp
              obtain ⟨f0, f1, f2, f3, f4⟩ := boxF hbf
              by_cases hjl : j < f.locals.length
              · obtain ⟨ld, hla, hx⟩ := (HFK.out.1.keep (CellsK.of hgx)).at_ hjl
                have HTK := Lib.hid (show (f.locals.take (j + 1)).all (locB p k) = locB p k f.locals[j] by rw [List.take_succ_eq_append_getElem hjl, List.all_append, HAL.out]; simp)
                have HNO := Lib.hid (show locB p k f.locals[j] = false → f.locals.all (locB p k) = false from fun h => List.all_eq_false.2 ⟨_, List.getElem_mem hjl, by simp [h]⟩)
                generalize f.locals[j] = x at *
                have hlx : LcBox p f w.heap.size bf w wr wr := ⟨hbp, hbf, CellsK.refl _, hgx⟩
                have hlxd := hlx.drew
                have HKA := Lib.hid (fun W (h : LcBox p f w.heap.size bf w wr W) => Kind_any p x W (HP.out.keep (CellsK.of h.g)))
                have HLA := Lib.hid hla
                rw [hla] at f3
                have hj0 : (0 : Int) ≤ (j : Int) := by omega
                have hji : (j : Int) < (f.locals.length : Int) := by omega
                clear hbp hbf hgx hla
                by_cases hk2 : kindP p x = 2
                · have hin : 0 ≤ x ∧ x < (p.sites.length : Int) := by
                    by_cases h : x < 0 ∨ (p.sites.length : Int) ≤ x
                    · rw [kindP_out h] at hk2; exact absurd hk2 (by decide)
                    · omega
                  obtain ⟨m, rfl⟩ : ∃ m : Nat, x = m := ⟨x.toNat, by omega⟩
                  have hm : m < p.sites.length := by omega
                  have hm0 : (0 : Int) ≤ (m : Int) := by omega
                  have hmi : (m : Int) < (p.sites.length : Int) := by omega
                  obtain ⟨sd, hsd, _, _, s2, _⟩ := sit_cells ((HP.out.keep (CellsK.of HG3.out)).2.2.1) hm
                  have HF := Lib.hid (funcOf_in hm)
                  have HKD := Lib.hid (fun W (h : LcBox p f w.heap.size bf w wr W) => show Calls Tryd.prog 26 #[.agg #[.slice (some sd) p.sites.length p.sc, .slice p.fa p.fns.length p.fc, .int .i64 p.main], .int .i64 (m : Int)] W (fun e w' => e = .returned (.int .i64 2) ∧ W.grownBy w' none) from by
                    have h2 := HKA.out W h
                    rw [hk2, show prgV p = .agg #[.slice (some sd) p.sites.length p.sc, .slice p.fa p.fns.length p.fc, .int .i64 p.main] by unfold prgV prgC; rw [hsd]] at h2
                    exact h2)
                  have HSD := Lib.hid hsd
                  rw [hsd] at b0
                  have HK2 := Lib.hid hk2
                  clear hin hk2 HKA hsd
                  generalize p.sites[m] = s at *
                  have HRD := Lib.hid (fun W (h : LcBox p f w.heap.size bf w wr W) => show W.cell? ⟨w.heap.size, 0, none⟩ = some (.slice (some sd) p.sites.length p.sc) ∧ W.cell? ⟨w.heap.size, 1, none⟩ = some (.slice p.fa p.fns.length p.fc) ∧ W.cell? ⟨w.heap.size, 2, none⟩ = some (.int .i64 p.main) ∧ W.cell? ⟨bf, 3, none⟩ = some (.slice (some ld) f.locals.length f.lc) ∧ W.cell? (ld.add j) = some (.int .i64 (m : Int)) ∧ W.cell? ⟨(sd.add (m * 8)).block, (sd.add (m * 8)).off + 2, none⟩ = some (.int .i64 s.func) ∧ LcBox p f w.heap.size bf w wr W from ⟨by have q := (boxP h.hp).1; rw [HSD.out] at q; exact q, (boxP h.hp).2.1, (boxP h.hp).2.2, by have q := (boxF h.hf).2.2.2.1; rw [HLA.out] at q; exact q, h.k.2 _ _ hx, h.k.2 _ _ s2, h⟩)
                  by_cases hfn : s.func = (k : Int)
                  · have e3 : (s.func != (k : Int)) = false := by simpa using hfn
                    have HLB := Lib.hid (show locB p k (m : Int) = true by unfold locB; rw [HK2.out, HF.out, hfn]; simp)
                    clear hfn
                    go_wp2_with fail
                    refine wp_region_noPanic (reg19_two (R := fun W => LcBox p f w.heap.size bf w wr W) (by kernel_rfl) sd ld m s.func false hlxd hj0 hji hm0 hmi e3 (fun W h => ⟨(HRD.out W h).1, (HRD.out W h).2.1, (HRD.out W h).2.2.1, (HRD.out W h).2.2.2.1, (HRD.out W h).2.2.2.2.1, (HRD.out W h).2.2.2.2.2.1⟩) (fun W h => (HKD.out W h).mono fun e w' hh => ⟨hh.1, LcBox.gr h hh.2⟩) ?_)
                    intro W _ _ _ _ _ _ _ _ _ _ _ _ _ _ _ _ _ _ _ _ _ hbx7
                    clear hlxd hlx HKD HRD
                    go_wp2_with fail
                    go_roundw
                    case rel => exact ⟨j + 1, by omega, by go_num, by rw [HTK.out, HLB.out], hbx7.hp, hbx7.hf, hbx7.g⟩
                    case measure => simp [intOf]; omega
                  · have e3 : (s.func != (k : Int)) = true := by simpa using hfn
                    have HLB := Lib.hid (show locB p k (m : Int) = false by unfold locB; rw [HK2.out, HF.out]; simpa using hfn)
                    clear hfn
                    go_wp2_with fail
                    refine wp_region_noPanic (reg19_two (R := fun W => LcBox p f w.heap.size bf w wr W) (by kernel_rfl) sd ld m s.func true hlxd hj0 hji hm0 hmi e3 (fun W h => ⟨(HRD.out W h).1, (HRD.out W h).2.1, (HRD.out W h).2.2.1, (HRD.out W h).2.2.2.1, (HRD.out W h).2.2.2.2.1, (HRD.out W h).2.2.2.2.2.1⟩) (fun W h => (HKD.out W h).mono fun e w' hh => ⟨hh.1, LcBox.gr h hh.2⟩) ?_)
                    intro W _ _ _ _ _ _ _ _ _ _ _ _ _ _ _ _ _ _ _ _ _ hbx7
                    clear hlxd hlx HKD HRD
                    go_wp2_with fail
                    refine bodyPost_ret (v := .tuple #[.int .i64 (k : Int), .int .i64 0, .int .i64 8]) (by simp [results, Tryd.results17, go_sem]) rfl ⟨ret_tri (HNOL.out (HNO.out HLB.out)), hbx7.g⟩
                · have e2 : (kindP p x != 2) = true := by simpa using hk2
                  have HLB := Lib.hid (show locB p k x = false by unfold locB; rw [beq_eq_false_iff_ne.2 hk2]; rfl)
                  have HKD := Lib.hid (fun W (h : LcBox p f w.heap.size bf w wr W) => show Calls Tryd.prog 26 #[.agg #[.slice p.sa p.sites.length p.sc, .slice p.fa p.fns.length p.fc, .int .i64 p.main], .int .i64 x] W _ from HKA.out W h)
                  have HRD := Lib.hid (fun W (h : LcBox p f w.heap.size bf w wr W) => show W.cell? ⟨w.heap.size, 0, none⟩ = some (.slice p.sa p.sites.length p.sc) ∧ W.cell? ⟨w.heap.size, 1, none⟩ = some (.slice p.fa p.fns.length p.fc) ∧ W.cell? ⟨w.heap.size, 2, none⟩ = some (.int .i64 p.main) ∧ W.cell? ⟨bf, 3, none⟩ = some (.slice (some ld) f.locals.length f.lc) ∧ W.cell? (ld.add j) = some (.int .i64 x) ∧ LcBox p f w.heap.size bf w wr W from ⟨by have q := (boxP h.hp).1; exact q, (boxP h.hp).2.1, (boxP h.hp).2.2, by have q := (boxF h.hf).2.2.2.1; rw [HLA.out] at q; exact q, h.k.2 _ _ hx, h⟩)
                  clear HKA hk2
                  generalize kindP p x = kd at *
                  go_wp2_with fail
                  refine wp_region_noPanic (reg19_one (R := fun W => LcBox p f w.heap.size bf w wr W) (by kernel_rfl) p.sa ld x kd hlxd hj0 hji e2 (fun W h => ⟨(HRD.out W h).1, (HRD.out W h).2.1, (HRD.out W h).2.2.1, (HRD.out W h).2.2.2.1, (HRD.out W h).2.2.2.2.1⟩) (fun W h => (HKD.out W h).mono fun e w' hh => ⟨hh.1, LcBox.gr h hh.2⟩) ?_)
                  intro W _ _ _ _ _ _ _ _ _ _ _ _ _ _ _ _ _ _ _ _ _ hbx7
                  clear hlxd hlx HKD HRD
                  go_wp2_with fail
                  refine bodyPost_ret (v := .tuple #[.int .i64 (k : Int), .int .i64 0, .int .i64 8]) (by simp [results, Tryd.results17, go_sem]) rfl ⟨ret_tri (HNOL.out (HNO.out HLB.out)), hbx7.g⟩
              · have hkk : j = f.locals.length := by omega
                subst hkk
                have HALL := Lib.hid (HFY.out (by have := HAL.out; rwa [List.take_length] at this))
                clear hbp hbf hgx
                go_wp2_with fail
                go_loopw [9] (fun v wx => CdRel p f w bf v wx) (fun v _ => f.code.length - (intOf v).toNat)
                case atStart => exact ⟨0, Nat.zero_le _, rfl, rfl, HBP3.out, HBF3.out, HG3.out⟩
                case round =>
                  obtain ⟨c, hc, rfl, hbd, hbp, hbf, hgx⟩ := hrel
                  have HBD := Lib.hid hbd
                  have HG4 := Lib.hid hgx
                  have HBP4 := Lib.hid hbp
                  have HBF4 := Lib.hid hbf
                  clear hbd b0 b1 b2 f0 f1 f2 f3 f4
                  obtain ⟨b0, b1, b2⟩ := boxP hbp
                  obtain ⟨f0, f1, f2, f3, f4⟩ := boxF hbf
                  by_cases hcl : c < f.code.length
                  · have HIN := Lib.hid (show Calls Tryd.prog 27 #[.agg #[.slice p.sa p.sites.length p.sc, .slice p.fa p.fns.length p.fc, .int .i64 p.main], .agg #[.string f.name, .int .i64 f.regs, .int .i64 f.params, .slice f.la f.locals.length f.lc, .slice f.ca f.code.length f.cc], .int .i64 (c : Int)] wr _ from Insn_any p f c hcl wr (HP.out.keep (CellsK.of hgx)) (HFK.out.keep (CellsK.of hgx)))
                    have HGO3 := Lib.hid (fun (h : insE p f c f.code[c] = 0) => (bodyF_go (p := p) hcl h).symm.trans HBD.out)
                    have HST3 := Lib.hid (fun (e : Int) (h : insE p f c f.code[c] = e) (he : e ≠ 0) => HALL.out.trans (HBD.out.symm.trans (bodyF_stop (p := p) (e := e) hcl h he)))
                    generalize insE p f c f.code[c] = er at *
                    clear hbp hbf hgx
                    go_wp2_with fail
                    refine (HIN.out).mono ?_
                    rintro e w7 ⟨rfl, hg7⟩
                    have HG7 := Lib.hid (grownBy_trans HG4.out hg7)
                    have HBP7 := Lib.hid (HBP4.out.gr hg7)
                    have HBF7 := Lib.hid (HBF4.out.gr hg7)
                    clear hg7 HG4 HBP4 HBF4 HIN b0 b1 b2 f0 f1 f2 f3 f4
                    by_cases her : er = 0
                    · have e6 : (er != 0) = false := by simpa using her
                      have HER := Lib.hid her
                      clear her
                      go_wp2_with fail
                      go_roundw
                      case rel => exact ⟨c + 1, by omega, by go_num, HGO3.out HER.out, HBP7.out, HBF7.out, HG7.out⟩
                      case measure => simp [intOf]; omega
                    · have e6 : (er != 0) = true := by simpa using her
                      have HER := Lib.hid her
                      clear her
                      go_wp2_with fail
                      refine bodyPost_ret (v := .tuple #[.int .i64 (k : Int), .int .i64 (c : Int), .int .i64 er]) (by simp [results, Tryd.results17, go_sem]) rfl ⟨ret_tri (HCK.out.trans (HST.out _ er (HST3.out er rfl HER.out) HER.out)), HG7.out⟩
                  · have hkk : c = f.code.length := by omega
                    subst hkk
                    have HGO2 := Lib.hid (HGO.out (by rw [HALL.out, ← HBD.out, List.drop_length]; rfl))
                    clear hbp hbf hgx
                    go_wp2_with fail
                    go_roundw
                    case rel => exact ⟨k + 1, by omega, by go_num, HGO2.out, HG4.out, HBP4.out⟩
                    case measure => simp [intOf]; omega
          · have hbg := bigB_and hbg'
            have HFB := Lib.hid (funE_big (p := p) (k := k) hbg')
            clear hbg'
            by_cases h2 : 4000 < f.code.length
            · have e2 : decide (4000 < (f.code.length : Int)) = true := decide_eq_true (by omega)
              clear hbg h2
              go_wp2_with fail
              refine bodyPost_ret (v := .tuple #[.int .i64 (k : Int), .int .i64 0, .int .i64 5]) (by simp [results, Tryd.results17, go_sem]) rfl ⟨ret_tri (HCK.out.trans (HST.out 0 5 HFB.out (by decide))), HGF.out⟩
            by_cases h1 : f.code.length = 0
            · have e2 : decide (4000 < (f.code.length : Int)) = false := decide_eq_false (by omega)
              have e1 : ((f.code.length : Int) == 0) = true := beq_iff_eq.2 (by omega)
              clear hbg h1 h2
              go_wp2_with fail
              refine bodyPost_ret (v := .tuple #[.int .i64 (k : Int), .int .i64 0, .int .i64 5]) (by simp [results, Tryd.results17, go_sem]) rfl ⟨ret_tri (HCK.out.trans (HST.out 0 5 HFB.out (by decide))), HGF.out⟩
            by_cases h3 : 4000 < f.regs
            · have e2 : decide (4000 < (f.code.length : Int)) = false := decide_eq_false (by omega)
              have e1 : ((f.code.length : Int) == 0) = false := beq_eq_false_iff_ne.2 (by omega)
              have e3 : decide (4000 < f.regs) = true := decide_eq_true (by omega)
              clear hbg h1 h2 h3
              go_wp2_with fail
              refine bodyPost_ret (v := .tuple #[.int .i64 (k : Int), .int .i64 0, .int .i64 5]) (by simp [results, Tryd.results17, go_sem]) rfl ⟨ret_tri (HCK.out.trans (HST.out 0 5 HFB.out (by decide))), HGF.out⟩
            by_cases h4 : f.regs < f.params
            · have e2 : decide (4000 < (f.code.length : Int)) = false := decide_eq_false (by omega)
              have e1 : ((f.code.length : Int) == 0) = false := beq_eq_false_iff_ne.2 (by omega)
              have e3 : decide (4000 < f.regs) = false := decide_eq_false (by omega)
              have e4 : decide (f.regs < f.params) = true := decide_eq_true (by omega)
              clear hbg h1 h2 h3 h4
              go_wp2_with fail
              refine bodyPost_ret (v := .tuple #[.int .i64 (k : Int), .int .i64 0, .int .i64 5]) (by simp [results, Tryd.results17, go_sem]) rfl ⟨ret_tri (HCK.out.trans (HST.out 0 5 HFB.out (by decide))), HGF.out⟩
            · have h5 : f.params < 0 := by omega
              have e2 : decide (4000 < (f.code.length : Int)) = false := decide_eq_false (by omega)
              have e1 : ((f.code.length : Int) == 0) = false := beq_eq_false_iff_ne.2 (by omega)
              have e3 : decide (4000 < f.regs) = false := decide_eq_false (by omega)
              have e4 : decide (f.regs < f.params) = false := decide_eq_false (by omega)
              have e5 : decide (f.params < 0) = true := decide_eq_true (by omega)
              clear hbg h1 h2 h3 h4 h5
              go_wp2_with fail
              refine bodyPost_ret (v := .tuple #[.int .i64 (k : Int), .int .i64 0, .int .i64 5]) (by simp [results, Tryd.results17, go_sem]) rfl ⟨ret_tri (HCK.out.trans (HST.out 0 5 HFB.out (by decide))), HGF.out⟩
        · have hkk : k = p.fns.length := by omega
          subst hkk
          have HALL := Lib.hid (show fnsP p 0 p.fns = (0, 0, 0) by have h := HFN.out; rw [List.drop_length] at h; exact h.symm)
          clear hbx hgr
          go_wp2_with fail
          refine bodyPost_ret (v := .tuple #[.int .i64 0, .int .i64 0, .int .i64 0]) (by simp [results, Tryd.results17, go_sem]) rfl ⟨ret_tri (HCK.out.trans HALL.out), HG.out⟩

end Go.Proofs.YtdknclhbnhiojaaDoor
