/- ir: body. -/
import Derived.Test.YtdknclhbnhiojaaDoorI15
namespace Go.Proofs.YtdknclhbnhiojaaDoor
open Go.RowKit
/-- The error of an instruction at place k; 0: none. -/
def insE (p : Prg) (f : Fun') (k : Nat) (i : Ins) : Int := if rowL i.op = [] then 1 else if opsB p f i && allB f.code.length (nextI i ((k : Int) + 1)) then 0 else 8
/-- The first wrong instruction of some, from place k on. -/
def bodyF (p : Prg) (f : Fun') : Nat → List Ins → Int × Int
  | _, [] => (0, 0)
  | k, i :: r => if insE p f k i = 0 then bodyF p f (k + 1) r else (k, insE p f k i)
theorem bodyF_go {p : Prg} {f : Fun'} {k : Nat} (hk : k < f.code.length) (h : insE p f k f.code[k] = 0) : bodyF p f k (f.code.drop k) = bodyF p f (k + 1) (f.code.drop (k + 1)) := by
  rw [List.drop_eq_getElem_cons hk]
  show (if insE p f k f.code[k] = 0 then _ else _) = _
  rw [if_pos h]
theorem bodyF_stop {p : Prg} {f : Fun'} {k : Nat} {e : Int} (hk : k < f.code.length) (h : insE p f k f.code[k] = e) (he : e ≠ 0) : bodyF p f k (f.code.drop k) = ((k : Int), e) := by
  rw [List.drop_eq_getElem_cons hk]
  show (if insE p f k f.code[k] = 0 then _ else _) = _
  rw [h, if_neg he]
theorem nextI_len (i : Ins) (q : Int) : (nextI i q).length ≤ maxLen := by
  unfold maxLen nextI
  repeat' split
  all_goals simp
def pairV (x : Int × Int) : Value := .tuple #[.int .i64 x.1, .int .i64 x.2]
structure BdBox (p : Prg) (f : Fun') (b br bc : Nat) (w : World) : Prop where
  hp : BoxC (prgC p) 34 b w
  hf : BoxC (funC f) 43 (b + 1) w
  hr : BoxC #[.int .i64 f.regs] 3 br w
  hc : BoxC #[.int .i64 (f.code.length : Int)] 3 bc w
theorem BdBox.gr {p : Prg} {f : Fun'} {b br bc : Nat} {w w' : World} (h : BdBox p f b br bc w) (g : w.grownBy w' none) : BdBox p f b br bc w' := ⟨h.hp.gr g, h.hf.gr g, h.hr.gr g, h.hc.gr g⟩
theorem row_ne {op : Int} (h : ¬ rowL op = []) : ((rowB op).toList == []) = false := by
  by_cases h2 : 0 ≤ op ∧ op < 21
  · rcases op_cases h2.1 h2.2 with rfl | rfl | rfl | rfl | rfl | rfl | rfl | rfl | rfl | rfl | rfl | rfl | rfl | rfl | rfl | rfl | rfl | rfl | rfl | rfl | rfl
    · exact absurd rfl h
    all_goals decide +kernel
  · exact absurd (rowL_out h2) h
def BdRel (p : Prg) (f : Fun') (w : World) (br bc : Nat) (v : Value) (wr : World) : Prop :=
  ∃ k : Nat, k ≤ f.code.length ∧ v = .int .i64 k ∧ bodyF p f k (f.code.drop k) = bodyF p f 0 f.code ∧ w.grownBy wr none ∧ BdBox p f w.heap.size br bc wr
theorem ret_pair {k e : Int} {x : Int × Int} (h : x = (k, e)) : Ending.returned (.tuple #[.int .i64 k, .int .i64 e]) = .returned (pairV x) := by rw [h]; rfl
set_option maxRecDepth 100000 in
set_option maxHeartbeats 8000000 in
theorem body_any (p : Prg) (f : Fun') (w : World) (hv : VarsR w) (hp : PrgOk w p) (hf : FunOk w f) :
    Calls Tryd.prog 25 #[prgV p, funV f] w fun e w' => e = .returned (pairV (bodyF p f 0 f.code)) ∧ w.grownBy w' none := by
  have HV := Lib.hid hv
  have HP := Lib.hid hp
  have HF := Lib.hid hf
  have hlc := hf.2.2.1
  unfold maxLen at hlc
  have hg0 : w.grownBy ((w.alloc (.cells (prgC p) 34)).alloc (.cells (funC f) 43)) none := by repeat (first | with_reducible exact grownBy_refl _ _ | with_reducible assumption | with_reducible refine World.grownBy.gr_drew ?_ | with_reducible refine World.grownBy.gr_set ?_ (by simp) _ | with_reducible refine gr_alloc ?_ _)
  have HG0 := Lib.hid hg0
  have HBP := Lib.hid ((BoxC.new w (prgC p) 34).gr (gr_alloc (grownBy_refl _ _) (.cells (funC f) 43)))
  have hbf := BoxC.new (w.alloc (.cells (prgC p) 34)) (funC f) 43
  rw [show (w.alloc (.cells (prgC p) 34)).heap.size = w.heap.size + 1 by simp] at hbf
  have HBF := Lib.hid hbf
  clear hv hp hf hg0 hbf
  unfold prgV funV
  have HG0' := HG0
  unfold prgC funC at HG0
  unfold prgC funC
  go_enter Tryd.func25, Tryd.ntmps25
  go_wp2_with fail
  refine (allWithin_any _ _).mono ?_
  rintro e w1 ⟨br, rfl, hbr, hg1⟩
  have HG1 := Lib.hid (grownBy_trans HG0.out hg1)
  have HBP1 := Lib.hid (show BoxC (prgC p) 34 w.heap.size w1 from HBP.out.gr hg1)
  have HBF1 := Lib.hid (show BoxC (funC f) 43 (w.heap.size + 1) w1 from HBF.out.gr hg1)
  have HBR := Lib.hid hbr
  obtain ⟨f0, f1, f2, f3, f4⟩ := boxF HBF1.out
  clear HG0 HG0' HBP HBF hbr hg1
  go_wp2_with fail
  refine (allWithin_any _ _).mono ?_
  rintro e w2 ⟨bc, rfl, hbc, hg2⟩
  have HG2 := Lib.hid (grownBy_trans HG1.out hg2)
  have HBX := Lib.hid (show BdBox p f w.heap.size br bc w2 from ⟨HBP1.out.gr hg2, HBF1.out.gr hg2, HBR.out.gr hg2, hbc⟩)
  clear f0 f1 f2 f3 f4
  obtain ⟨f0, f1, f2, f3, f4⟩ := boxF HBX.out.hf
  clear HG1 HBP1 HBF1 HBR hbc hg2
  go_wp2_with fail
  unfold clos
  go_loopw [20] (fun v wr => BdRel p f w br bc v wr) (fun v _ => f.code.length - (intOf v).toNat)
  case atStart => exact ⟨0, Nat.zero_le _, rfl, rfl, HG2.out, HBX.out⟩
  case round =>
    obtain ⟨k, hk, rfl, hbd, hgr, hbx⟩ := hrel
    have HBD := Lib.hid hbd
    have HG := Lib.hid hgr
    have HX := Lib.hid hbx
    clear hbd
    by_cases hlt : k < f.code.length
    · obtain ⟨ad, ha, c0, c1, c2, c3, c4, c5, c6, c7⟩ := ins_cells (HF.out.2.2.2.1.keep (CellsK.of hgr)) hlt
      have HI := Lib.hid (HF.out.2.2.2.2 _ (List.getElem_mem hlt))
      have HGO := Lib.hid (fun (h : insE p f k f.code[k] = 0) => (bodyF_go (p := p) hlt h).symm.trans HBD.out)
      have HST := Lib.hid (fun (e : Int) (h : insE p f k f.code[k] = e) (he : e ≠ 0) => HBD.out.symm.trans (bodyF_stop (p := p) (e := e) hlt h he))
      have HQ := Lib.hid (show IntKind.i64.wrap ((k : Int) + 1) = (k : Int) + 1 by rw [IntKind.wrap_i64]; omega)
      generalize f.code[k] = i at *
      generalize hca : f.ca = ca at *
      subst ha
      have HCA := Lib.hid hca
      have HBI := Lib.hid (show BoxI i wr.heap.size (wr.alloc (.cells (insC i) 24)) from heap_alloc_new wr _)
      have HG1 := Lib.hid (show w.grownBy (wr.alloc (.cells (insC i) 24)) none from gr_alloc hgr _)
      have HX1 := Lib.hid (show BdBox p f w.heap.size br bc (wr.alloc (.cells (insC i) 24)) from hbx.gr (gr_alloc (grownBy_refl _ _) _))
      unfold insC at HBI HG1 HX1
      clear hgr hbx HG HX
      go_wp2_with fail
      refine (row_any _ _ (HV.out.grown HG1.out)).mono ?_
      rintro e w3 ⟨rfl, rfl⟩
      by_cases hr : rowL i.op = []
      · have HE := Lib.hid (show insE p f k i = 1 by unfold insE; rw [if_pos hr])
        have hem : ((rowB i.op).toList == []) = true := by unfold rowB; rw [hr]; decide +kernel
        generalize rowB i.op = s at *
        clear hr
        go_wp2_with fail
        go_ret2
        exact ⟨ret_pair (HST.out 1 HE.out (by decide)), HG1.out⟩
      · have hne := row_ne hr
        have HR := Lib.hid hr
        generalize rowB i.op = s at *
        clear hr
        have HFV := Lib.hid (show funV f = .agg #[.string f.name, .int .i64 f.regs, .int .i64 f.params, .slice f.la f.locals.length f.lc, .slice (some ad) f.code.length f.cc] by unfold funV funC; rw [HCA.out])
        generalize wr.alloc (.cells #[.int .i64 i.op, .int .i64 i.a, .int .i64 i.b, .int .i64 i.c, .int .i64 i.w, .int .i64 i.n, .string i.sign, .slice i.aa i.an i.ac] 24) = W1 at *
        clear c0 c1 c2 c3 c4 c5 c6 c7
        obtain ⟨c0, c1, c2, c3, c4, c5, c6, c7⟩ := BoxI.cells (i := i) HBI.out
        obtain ⟨b0, b1, b2⟩ := boxP HX1.out.hp
        obtain ⟨g0, g1, g2, g3, g4⟩ := boxF HX1.out.hf
        rw [HCA.out] at g4
        go_wp2_with fail
        refine (show Calls Tryd.prog 31 #[.agg #[.slice p.sa p.sites.length p.sc, .slice p.fa p.fns.length p.fc, .int .i64 p.main], .agg #[.string f.name, .int .i64 f.regs, .int .i64 f.params, .slice f.la f.locals.length f.lc, .slice (some ad) f.code.length f.cc], .agg #[.int .i64 i.op, .int .i64 i.a, .int .i64 i.b, .int .i64 i.c, .int .i64 i.w, .int .i64 i.n, .string i.sign, .slice i.aa i.an i.ac], .func (.func 35) #[] #[.pointer (some ⟨br, 0, none⟩)]] W1 _ from by
          have h := operands_any p f i br W1 (HV.out.grown HG1.out) (HP.out.keep (CellsK.of HG1.out)) (HI.out.keep (CellsK.of HG1.out)) HX1.out.hr
          rw [HFV.out] at h
          exact h).mono ?_
        rintro e w3 ⟨rfl, hg3⟩
        have HG3 := Lib.hid (grownBy_trans HG1.out hg3)
        have HX3 := Lib.hid (HX1.out.gr hg3)
        have hbi3 : BoxI i wr.heap.size w3 := BoxI.gr (i := i) HBI.out hg3
        have HBI3 := Lib.hid hbi3
        clear c0 c1 c2 c3 c4 c5 c6 c7 b0 b1 b2 g0 g1 g2 g3 g4 hg3 HG1 HX1 HBI
        rcases ho : opsB p f i
        · have HE := Lib.hid (show insE p f k i = 8 by unfold insE; rw [if_neg HR.out, ho]; rfl)
          clear ho hbi3
          go_wp2_with fail
          go_ret2
          exact ⟨ret_pair (HST.out 8 HE.out (by decide)), HG3.out⟩
        · have HO := Lib.hid ho
          obtain ⟨c0, c1, c2, c3, c4, c5, c6, c7⟩ := hbi3.cells
          clear ho hbi3
          go_wp2_with fail
          refine (show Calls Tryd.prog 12 #[.agg #[.int .i64 i.op, .int .i64 i.a, .int .i64 i.b, .int .i64 i.c, .int .i64 i.w, .int .i64 i.n, .string i.sign, .slice i.aa i.an i.ac], .int .i64 (k : Int)] w3 _ from Next_any i k _ HQ.out w3).mono ?_
          rintro e w4 ⟨A, n, c, rfl, hI, hg4⟩
          have HG4 := Lib.hid (grownBy_trans HG3.out hg4)
          have HX4 := Lib.hid (HX3.out.gr hg4)
          have HI4 := Lib.hid hI
          clear c0 c1 c2 c3 c4 c5 c6 c7 hI hg4 HG3 HX3 HBI3
          go_wp2_with fail
          refine (all1_any _ _ _ _ (f.code.length : Int) bc _ HI4.out (nextI_len _ _) HX4.out.hc).mono ?_
          rintro e w5 ⟨rfl, hg5⟩
          have HG5 := Lib.hid (grownBy_trans HG4.out hg5)
          have HX5 := Lib.hid (HX4.out.gr hg5)
          clear hg5 HG4 HX4 HI4
          rcases hn : allB (f.code.length : Int) (nextI i ((k : Int) + 1))
          · have HE := Lib.hid (show insE p f k i = 8 by unfold insE; rw [if_neg HR.out, HO.out, hn]; rfl)
            clear hn
            go_wp2_with fail
            go_ret2
            exact ⟨ret_pair (HST.out 8 HE.out (by decide)), HG5.out⟩
          · have HE := Lib.hid (show insE p f k i = 0 by unfold insE; rw [if_neg HR.out, HO.out, hn]; rfl)
            clear hn
            go_wp2_with fail
            go_roundw
            case rel => exact ⟨k + 1, by omega, by go_num, HGO.out HE.out, HG5.out, HX5.out⟩
            case measure => simp [intOf]; omega
    · have hkk : k = f.code.length := by omega
      subst hkk
      have HALL := Lib.hid (show bodyF p f 0 f.code = (0, 0) by have h := HBD.out; rw [List.drop_length] at h; exact h.symm)
      clear hgr hbx
      go_wp2_with fail
      go_ret2
      exact ⟨ret_pair HALL.out, HG.out⟩

end Go.Proofs.YtdknclhbnhiojaaDoor
