/- IrMore, walked: as far as the copy of the functions. -/
import Derived.Test.YtdknclhbnhiojaaDoorI33
import Derived.Test.YtdknclhbnhiojaaDoorI18
namespace Go.Proofs.YtdknclhbnhiojaaDoor
open Go.RowKit
theorem infoFn : (Tryd.prog.info? 43).map (fun i => (i.zero, i.size, i.bytes)) = some (some (.agg #[.string ⟨#[]⟩, .int .i64 0, .int .i64 0, .slice none 0 0, .slice none 0 0]), 5, 80) := by kernel_rfl
theorem infoIn : (Tryd.prog.info? 24).map (fun i => (i.zero, i.size, i.bytes)) = some (some (.agg #[.int .i64 0, .int .i64 0, .int .i64 0, .int .i64 0, .int .i64 0, .int .i64 0, .string ⟨#[]⟩, .slice none 0 0]), 8, 88) := by kernel_rfl
set_option maxRecDepth 100000 in
set_option maxHeartbeats 16000000 in
theorem more_walk (p : Prg) (wh : Int) (h0 : 0 ≤ wh) (h255 : wh ≤ 255) (w : World) (hv : VarsR w) (hp : PrgOk w p) :
    Calls Tryd.prog 6 #[prgV p, .int .u8 wh] w fun e w' => e = .returned (.bool true) ∧ w.grownBy w' none := by
  have HV := Lib.hid hv
  have HP := Lib.hid hp
  have hg0 : w.grownBy (w.alloc (.cells (prgC p) 34)) none := by repeat (first | with_reducible exact grownBy_refl _ _ | with_reducible assumption | with_reducible refine World.grownBy.gr_drew ?_ | with_reducible refine World.grownBy.gr_set ?_ (by simp) _ | with_reducible refine gr_alloc ?_ _)
  have HB0 := Lib.hid (BoxC.new w (prgC p) 34)
  have HG0 := Lib.hid hg0
  clear hv hp hg0
  unfold prgV
  unfold prgC at HB0 HG0
  unfold prgC
  go_enter Tryd.func6, Tryd.ntmps6
  go_wp2_with fail
  refine (shown_any _ (HV.out.grown HG0.out)).mono ?_
  rintro e w1 ⟨rfl, hg1⟩
  have HG1 := Lib.hid (grownBy_trans HG0.out hg1)
  have HB1 := Lib.hid (show BoxC (prgC p) 34 w.heap.size w1 from BoxC.gr HB0.out hg1)
  obtain ⟨b0, b1, b2⟩ := boxP HB1.out
  clear hg1 HB0 HG0
  go_wp2_with fail
  refine (show Calls Tryd.prog 16 #[.agg #[.slice p.sa p.sites.length p.sc, .slice p.fa p.fns.length p.fc, .int .i64 p.main]] w1 _ from check_any p w1 (HV.out.grown HG1.out) (HP.out.keep (CellsK.of HG1.out))).mono ?_
  rintro e w2 ⟨rfl, hg2⟩
  have HG2 := Lib.hid (grownBy_trans HG1.out hg2)
  have HB2 := Lib.hid (HB1.out.gr hg2)
  have HGP' := Lib.hid (fun (h : (checkP p).2.2 = 0) => goodP_of h)
  unfold triV
  generalize checkP p = t at *
  obtain ⟨t1, t2, t3⟩ := t
  clear hg2 HG1 HB1 b0 b1 b2
  obtain ⟨b0, b1, b2⟩ := boxP HB2.out
  by_cases ht : t3 = 0
  · subst ht
    have HGP := Lib.hid (HGP'.out rfl)
    have hn1 := HP.out.2.1
    unfold maxLen at hn1
    clear HGP'
    by_cases hz : p.fns.length = 0
    · have e1 : ((p.fns.length : Int) == 0) = true := by simpa using hz
      clear hz
      go_wp2_with fail
      go_ret
      exact ⟨rfl, HG2.out⟩
    · have e1 : ((p.fns.length : Int) == 0) = false := by simpa using hz
      obtain ⟨k, hk⟩ : ∃ k : Nat, wh % (p.fns.length : Int) = (k : Int) := ⟨(wh % (p.fns.length : Int)).toNat, by have := Int.emod_nonneg wh (show (p.fns.length : Int) ≠ 0 by omega); omega⟩
      have hkl : k < p.fns.length := by have := Int.emod_lt_of_pos wh (show (0 : Int) < p.fns.length by omega); omega
      have hp0 : 0 < p.fns.length := by omega
      obtain ⟨ad, ha⟩ : ∃ ad, p.fa = some ad := by
        obtain ⟨ad, ha, _⟩ := fun_cells HP.out.2.2.2.1 hkl
        exact ⟨ad, ha⟩
      rw [ha] at b1
      have hbl := lt_of_heap HB2.out
      clear hz
      have hnf := HGP.out.nf
      have HFC := Lib.hid (show StrAt funC 5 (w2.alloc (.cells #[] 43)) (some ad) p.fns by rw [← ha]; exact (HP.out.2.2.2.1).keep (CellsK.of (gr_alloc HG2.out _)))
      have HA := Lib.hid ha
      have HK := Lib.hid hk
      clear hk ha
      obtain ⟨i0, hi, hz0, hz1, hz2⟩ := info_parts infoFn
      go_wp2_with (at_builtin; go_must (refine wpList_append_own _ rfl (.tmp 37) (.tmp 39) 32 rfl w2.heap.size 43 i0 _ 5 80 Tryd.underlying32 hi hz0 hz1 hz2 rfl (by decide) _ 0 [] rfl ⟨rfl, .inr ⟨w2.heap.size, 0, _, rfl, Nat.le_refl _, heap_alloc_new w2 _, Nat.le_refl _, by unfold maxLen; omega, rfl, rfl⟩⟩ ad p.fns.length p.fc (flatC funC p.fns) rfl ?_ ?_ ?_ ?_ ?_ ?_ ?_))
      · exact flat_len funC_size _
      · exact fun j u hu => StrAt.flat funC_size HFC.out j u hu
      · exact flat_one funC_one _
      · unfold maxLen; omega
      · omega
      · simp
      intro v' w4 hown hgrow _
      replace hown : w4.ownsRow w2.heap.size 43 5 v' p.fns.length (flatC funC p.fns) := by simpa using hown
      have HG4 := Lib.hid (gr_own (gr_alloc HG2.out (.cells #[] 43)) hgrow (fun q hq => by simp [Value.ownBlock] at hq; omega))
      have HB4 := Lib.hid (show BoxC (prgC p) 34 w.heap.size w4 from (hgrow.block _ (by simp; omega) (by simp [Value.ownBlock]; omega)).trans (HB2.out.gr (gr_alloc (grownBy_refl _ _) _)))
      obtain ⟨g, c, rfl, hg1, hg2⟩ := own_some hown hp0
      have HO4 := Lib.hid hown
      have hbg : w.heap.size < g := by omega
      clear hown hgrow hi hz0 hz1 hz2 b0 b1 b2
      obtain ⟨b0, b1, b2⟩ := boxP HB4.out
      have hrow : ∀ q u, (flatC funC p.fns)[q]? = some u → w4.cell? ⟨g, q, none⟩ = some u := fun q u hu => by
        rw [HO4.out.cellAt _ (by have := (List.getElem?_eq_some_iff.1 hu).1; rwa [flat_len funC_size] at this)]; exact hu
      have hrf : ∀ q u, (funC p.fns[k])[q]? = some u → w4.cell? ⟨g, k * 5 + q, none⟩ = some u := fun q u hu => hrow _ _ (by
        rw [flat_at funC_size _ _ _ (by have := (Array.getElem?_eq_some_iff.1 hu).1; rwa [funC_size] at this), List.getElem?_eq_getElem hkl]; exact hu)
      have f0 : w4.cell? ⟨g, k * 5, none⟩ = some (.string p.fns[k].name) := hrf 0 _ rfl
      have f1 : w4.cell? ⟨g, k * 5 + 1, none⟩ = some (.int .i64 p.fns[k].regs) := hrf 1 _ rfl
      have f2 : w4.cell? ⟨g, k * 5 + 2, none⟩ = some (.int .i64 p.fns[k].params) := hrf 2 _ rfl
      have f3 : w4.cell? ⟨g, k * 5 + 3, none⟩ = some (.slice p.fns[k].la p.fns[k].locals.length p.fns[k].lc) := hrf 3 _ rfl
      have f4 : w4.cell? ⟨g, k * 5 + 4, none⟩ = some (.slice p.fns[k].ca p.fns[k].code.length p.fns[k].cc) := hrf 4 _ rfl
      have HFK := Lib.hid (show p.fns[k]? = some p.fns[k] from List.getElem?_eq_getElem hkl)
      have HGF := Lib.hid (HGP.out.fns k _ (List.getElem?_eq_getElem hkl))
      have HFO := Lib.hid (HP.out.2.2.2.2 _ (List.getElem_mem hkl))
      generalize p.fns[k] = f at *
      clear hrow hrf
      rw [HK.out]
      have hsm := small_of HGF.out.1
      have hk5 : k * 5 + 4 < p.fns.length * 5 := by omega
      have hgw : g < w4.heap.size := hg2
      by_cases hbig : 4000 ≤ f.code.length ∨ 4000 ≤ f.regs
      · clear HFO HFK HGF HFC HGP
        by_cases hb1 : 4000 ≤ f.code.length
        · have e1 : decide (4000 ≤ (f.code.length : Int)) = true := decide_eq_true (by omega)
          clear hbig hb1 hsm
          go_wp2_with fail
          go_ret
          exact ⟨rfl, gr_alloc HG4.out _⟩
        · have e1 : decide (4000 ≤ (f.code.length : Int)) = false := decide_eq_false (by omega)
          have e2 : decide (4000 ≤ f.regs) = true := decide_eq_true (by omega)
          clear hbig hb1 hsm
          go_wp2_with fail
          go_ret
          exact ⟨rfl, gr_alloc HG4.out _⟩
      · have e1 : decide (4000 ≤ (f.code.length : Int)) = false := decide_eq_false (by omega)
        have e2 : decide (4000 ≤ f.regs) = false := decide_eq_false (by omega)
        have hreg : f.regs < 4000 ∧ 0 ≤ f.regs := by omega
        have hcl : f.code.length < 4000 ∧ 0 < f.code.length := by omega
        have HL := Lib.hid hcl
        have HR := Lib.hid hreg
        have hr1 : f.regs < 4000 := by omega
        have hr0 : 0 ≤ f.regs := by omega
        obtain ⟨cd, hcd⟩ : ∃ cd, f.ca = some cd := by
          obtain ⟨cd, hcd, _⟩ := ins_cells HFO.out.2.2.2.1 hcl.2
          exact ⟨cd, hcd⟩
        rw [hcd] at f4
        have HCD := Lib.hid hcd
        clear hbig hsm hcd hreg
        obtain ⟨i0, hi, hz0, hz1, hz2⟩ := info_parts infoIn
        have HGa := Lib.hid (show w.grownBy ((w4.alloc (.cells #[.string f.name, .int .i64 (f.regs + 1), .int .i64 f.params, .slice f.la f.locals.length f.lc, .slice (some cd) f.code.length f.cc] 43)).alloc (.cells #[] 24)) none from gr_alloc (gr_alloc HG4.out _) _)
        have HSC := Lib.hid (show StrAt insC 8 ((w4.alloc (.cells #[.string f.name, .int .i64 (f.regs + 1), .int .i64 f.params, .slice f.la f.locals.length f.lc, .slice (some cd) f.code.length f.cc] 43)).alloc (.cells #[] 24)) (some cd) f.code by have q := (HFO.out.2.2.2.1).keep (CellsK.of HGa.out); rw [HCD.out] at q; exact q)
        have HBa := Lib.hid (show BoxC (prgC p) 34 w.heap.size ((w4.alloc (.cells #[.string f.name, .int .i64 (f.regs + 1), .int .i64 f.params, .slice f.la f.locals.length f.lc, .slice (some cd) f.code.length f.cc] 43)).alloc (.cells #[] 24)) from HB4.out.gr (gr_alloc (gr_alloc (grownBy_refl _ _) _) _))
        have HFa := Lib.hid (show BoxC #[.string f.name, .int .i64 (f.regs + 1), .int .i64 f.params, .slice f.la f.locals.length f.lc, .slice (some cd) f.code.length f.cc] 43 w4.heap.size ((w4.alloc (.cells #[.string f.name, .int .i64 (f.regs + 1), .int .i64 f.params, .slice f.la f.locals.length f.lc, .slice (some cd) f.code.length f.cc] 43)).alloc (.cells #[] 24)) from BoxC.gr (BoxC.new w4 _ _) (gr_alloc (grownBy_refl _ _) _))
        have HOa := Lib.hid (own_gr HO4.out (w' := (w4.alloc (.cells #[.string f.name, .int .i64 (f.regs + 1), .int .i64 f.params, .slice f.la f.locals.length f.lc, .slice (some cd) f.code.length f.cc] 43)).alloc (.cells #[] 24)) (gr_alloc (gr_alloc (grownBy_refl _ _) _) _))
        go_wp2_with (at_builtin; go_must (refine wpList_append_own _ rfl (.tmp 59) (.tmp 61) 41 rfl (w4.heap.size + 1) 24 i0 _ 8 88 Tryd.underlying41 hi hz0 hz1 hz2 rfl (by decide) _ 0 [] rfl ⟨rfl, .inr ⟨w4.heap.size + 1, 0, _, rfl, Nat.le_refl _, by simpa using heap_alloc_new (w4.alloc _) (.cells #[] 24), Nat.le_refl _, by unfold maxLen; omega, rfl, rfl⟩⟩ cd f.code.length f.cc (flatC insC f.code) rfl ?_ ?_ ?_ ?_ ?_ ?_ ?_))
        · exact flat_len insC_size _
        · exact fun j u hu => StrAt.flat insC_size HSC.out j u hu
        · exact flat_one insC_one _
        · unfold maxLen; omega
        · omega
        · simp
        intro v' w5 hown hgrow _
        replace hown : w5.ownsRow (w4.heap.size + 1) 24 8 v' f.code.length (flatC insC f.code) := by simpa using hown
        have HG5 := Lib.hid (gr_own HGa.out hgrow (fun q hq => by simp [Value.ownBlock] at hq; omega))
        have hkeep : ∀ q, q < w4.heap.size + 1 → w5.heap[q]? = ((w4.alloc (.cells #[.string f.name, .int .i64 (f.regs + 1), .int .i64 f.params, .slice f.la f.locals.length f.lc, .slice (some cd) f.code.length f.cc] 43)).alloc (.cells #[] 24)).heap[q]? := fun q hq => hgrow.block q (by simp; omega) (by simp [Value.ownBlock]; omega)
        have HB5 := Lib.hid (show BoxC (prgC p) 34 w.heap.size w5 from (hkeep _ (by omega)).trans HBa.out)
        have HF5 := Lib.hid (show BoxC #[.string f.name, .int .i64 (f.regs + 1), .int .i64 f.params, .slice f.la f.locals.length f.lc, .slice (some cd) f.code.length f.cc] 43 w4.heap.size w5 from (hkeep _ (by omega)).trans HFa.out)
        have HO5 := Lib.hid (show w5.ownsRow w2.heap.size 43 5 (.slice (some ⟨g, 0, none⟩) p.fns.length c) p.fns.length (flatC funC p.fns) from by
          refine ⟨HOa.out.1, HOa.out.2.imp id ?_⟩
          rintro ⟨g', cap, cur, hv, hg, hh, r⟩
          refine ⟨g', cap, cur, hv, hg, (hkeep g' ?_).trans hh, r⟩
          simp at hv; omega)
        obtain ⟨g5, c5, rfl, hg51, hg52⟩ := own_some hown hcl.2
        have HR5 := Lib.hid hown
        have hz5 : w4.heap.size + 1 < w5.heap.size := by omega
        clear hown hgrow hkeep HGa HSC HBa HFa HOa HO4 HG4 HB4 f0 f1 f2 f3 f4 b0 b1 b2
        have HGb := Lib.hid (gr_alloc HG5.out (.cells (insC retI) 24))
        unfold insC retI at HGb
        go_wp2_with (at_builtin; go_must (refine wpList_append_own _ rfl (.tmp 62) (.tmp 64) 41 rfl (w4.heap.size + 1) 24 i0 _ 8 88 Tryd.underlying41 hi hz0 hz1 hz2 rfl (by decide) _ f.code.length (flatC insC f.code) rfl (HR5.out.alloc _) ⟨w5.heap.size, 0, none⟩ 1 1 (insC retI).toList rfl ?_ ?_ ?_ ?_ ?_ ?_ ?_))
        · rfl
        · intro j u hu
          have hu' : (insC retI).toList[j]? = some u := by rw [Array.getElem?_toList]; exact hu
          exact hu'
        · exact fun u hu => insC_one _ u (by simpa using hu)
        · unfold maxLen; omega
        · omega
        · first | omega | (simp; omega)
        intro v' w6 hown hgrow _
        replace hown : w6.ownsRow (w4.heap.size + 1) 24 8 v' (f.code.length + 1) (flatC insC (f.code ++ [retI])) := by
          rw [flat_app]; simpa [flatC] using hown
        have HG6 := Lib.hid (gr_own HGb.out hgrow (fun q hq => by simp [Value.ownBlock] at hq; have := HG5.out.size; have := hg1; omega))
        have hkeep : ∀ q, q < w4.heap.size + 1 → w6.heap[q]? = w5.heap[q]? := fun q hq => (hgrow.block q (by simp; omega) (by simp [Value.ownBlock]; omega)).trans (heap_alloc_old w5 _ (by omega))
        have HB6 := Lib.hid (show BoxC (prgC p) 34 w.heap.size w6 from (hkeep _ (by omega)).trans HB5.out)
        have HF6 := Lib.hid (show BoxC #[.string f.name, .int .i64 (f.regs + 1), .int .i64 f.params, .slice f.la f.locals.length f.lc, .slice (some cd) f.code.length f.cc] 43 w4.heap.size w6 from (hkeep _ (by omega)).trans HF5.out)
        have HO6 := Lib.hid (show w6.ownsRow w2.heap.size 43 5 (.slice (some ⟨g, 0, none⟩) p.fns.length c) p.fns.length (flatC funC p.fns) from by
          refine ⟨HO5.out.1, HO5.out.2.imp id ?_⟩
          rintro ⟨g', cap, cur, hv, hg, hh, r⟩
          refine ⟨g', cap, cur, hv, hg, (hkeep g' ?_).trans hh, r⟩
          simp at hv; omega)
        obtain ⟨g6, c6, rfl, hg61, hg62⟩ := own_some hown (by omega)
        have HR6 := Lib.hid hown
        have hz6 : w4.heap.size + 1 < w6.heap.size := by omega
        clear hown hgrow hkeep HGb HB5 HF5 HO5 HG5 HR5 hz5 hi hz0 hz1 hz2
        obtain ⟨b0, b1, b2⟩ := boxP HB6.out
        have hbz := HB6.out.froz 1
        have f0 : w6.cell? ⟨w4.heap.size, 0, none⟩ = some (.string f.name) := HF6.out.cell rfl
        have f1 : w6.cell? ⟨w4.heap.size, 1, none⟩ = some (.int .i64 (f.regs + 1)) := HF6.out.cell rfl
        have f2 : w6.cell? ⟨w4.heap.size, 2, none⟩ = some (.int .i64 f.params) := HF6.out.cell rfl
        have f3 : w6.cell? ⟨w4.heap.size, 3, none⟩ = some (.slice f.la f.locals.length f.lc) := HF6.out.cell rfl
        have f4 : w6.cell? ⟨w4.heap.size, 4, none⟩ = some (.slice (some cd) f.code.length f.cc) := HF6.out.cell rfl
        have hfz := HF6.out.froz 4
        have hrow : ∀ q u, (flatC funC p.fns)[q]? = some u → w6.cell? ⟨g, q, none⟩ = some u := fun q u hu => by
          rw [HO6.out.cellAt _ (by have := (List.getElem?_eq_some_iff.1 hu).1; rwa [flat_len funC_size] at this)]; exact hu
        have hrf : ∀ q u, (funC f)[q]? = some u → w6.cell? ⟨g, k * 5 + q, none⟩ = some u := fun q u hu => hrow _ _ (by
          rw [flat_at funC_size _ _ _ (by have := (Array.getElem?_eq_some_iff.1 hu).1; rwa [funC_size] at this), HFK.out]; exact hu)
        have r0 : w6.cell? ⟨g, k * 5, none⟩ = some (.string f.name) := hrf 0 _ rfl
        have r1 : w6.cell? ⟨g, k * 5 + 1, none⟩ = some (.int .i64 f.regs) := hrf 1 _ rfl
        have r2 : w6.cell? ⟨g, k * 5 + 2, none⟩ = some (.int .i64 f.params) := hrf 2 _ rfl
        have r3 : w6.cell? ⟨g, k * 5 + 3, none⟩ = some (.slice f.la f.locals.length f.lc) := hrf 3 _ rfl
        have r4 : w6.cell? ⟨g, k * 5 + 4, none⟩ = some (.slice f.ca f.code.length f.cc) := hrf 4 _ rfl
        have z0 := row_froz HO6.out (k * 5)
        have z1 := row_froz HO6.out (k * 5 + 1)
        have z2 := row_froz HO6.out (k * 5 + 2)
        have z3 := row_froz HO6.out (k * 5 + 3)
        have z4 := row_froz HO6.out (k * 5 + 4)
        have n1 : ¬ g = w4.heap.size := by omega
        have n2 : ¬ w4.heap.size = g := by omega
        have n3 : ¬ g = w.heap.size := by omega
        have n4 : ¬ w.heap.size = g := by omega
        have n5 : ¬ w.heap.size = w4.heap.size := by omega
        have n6 : ¬ w4.heap.size = w.heap.size := by omega
        have hgw6 : g < w6.heap.size := by omega
        have hww6 : w.heap.size < w6.heap.size := by omega
        have hw46 : w4.heap.size < w6.heap.size := by omega
        clear hrow hrf
        have HW := Lib.hid (more_ok (bf := w4.heap.size) HP.out HFK.out HL.out.1 HG6.out HO6.out HR6.out n1 hbg (by omega) (by omega) (by omega) (by omega) rfl)
        have HMG := Lib.hid (HGP.out.more HFK.out HL.out.1 HR.out.1 (some ⟨g6, 0, none⟩) c6 (A := some ⟨g, 0, none⟩) (c := c))
        have hsl : (p.fns.set k (moreF f (some ⟨g6, 0, none⟩) c6)).length = p.fns.length := List.length_set
        have HC := Lib.hid (show Calls Tryd.prog 16 #[.agg #[.slice p.sa p.sites.length p.sc, .slice (some ⟨g, 0, none⟩) p.fns.length c, .int .i64 p.main]] (((((((w6.setCell ⟨w4.heap.size, 4, none⟩ (.slice (some ⟨g6, 0, none⟩) (f.code.length + 1) c6)).setCell ⟨g, k * 5, none⟩ (.string f.name)).setCell ⟨g, k * 5 + 1, none⟩ (.int .i64 (f.regs + 1))).setCell ⟨g, k * 5 + 2, none⟩ (.int .i64 f.params)).setCell ⟨g, k * 5 + 3, none⟩ (.slice f.la f.locals.length f.lc)).setCell ⟨g, k * 5 + 4, none⟩ (.slice (some ⟨g6, 0, none⟩) (f.code.length + 1) c6)).setCell ⟨w.heap.size, 1, none⟩ (.slice (some ⟨g, 0, none⟩) p.fns.length c)) (fun e w' => e = .returned (triV (0, 0, 0)) ∧ w.grownBy w' none) from by
          have h := check_any (moreP p k (moreF f (some ⟨g6, 0, none⟩) c6) (some ⟨g, 0, none⟩) c) (((((((w6.setCell ⟨w4.heap.size, 4, none⟩ (.slice (some ⟨g6, 0, none⟩) (f.code.length + 1) c6)).setCell ⟨g, k * 5, none⟩ (.string f.name)).setCell ⟨g, k * 5 + 1, none⟩ (.int .i64 (f.regs + 1))).setCell ⟨g, k * 5 + 2, none⟩ (.int .i64 f.params)).setCell ⟨g, k * 5 + 3, none⟩ (.slice f.la f.locals.length f.lc)).setCell ⟨g, k * 5 + 4, none⟩ (.slice (some ⟨g6, 0, none⟩) (f.code.length + 1) c6)).setCell ⟨w.heap.size, 1, none⟩ (.slice (some ⟨g, 0, none⟩) p.fns.length c)) (HV.out.grown HW.out.2) HW.out.1
          rw [HMG.out.check] at h
          unfold prgV prgC moreP at h
          simp only [hsl] at h
          exact h.mono fun e w' hh => ⟨hh.1, grownBy_trans HW.out.2 hh.2⟩)
        unfold triV at HC
        clear HW HMG hsl HR HL HCD HFO HGF HFK HA HFC HK HGP HO6 HR6 HF6 HB6 HG6 HB2 HG2
        go_wp2_with fail
        refine HC.out.mono ?_
        rintro e w7 ⟨rfl, hg7⟩
        have HG7 := Lib.hid hg7
        clear hg7 HC
        go_wp2_with fail
        go_ret
        exact ⟨rfl, HG7.out⟩
  · have e1 : (t3 != 0) = true := by simpa using ht
    clear ht
    go_wp2_with fail
    go_ret
    exact ⟨rfl, HG2.out⟩

end Go.Proofs.YtdknclhbnhiojaaDoor
