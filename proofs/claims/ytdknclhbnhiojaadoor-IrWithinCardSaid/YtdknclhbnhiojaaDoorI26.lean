/- IrWithin, walked. -/
import Derived.Test.YtdknclhbnhiojaaDoorI25
import Derived.Test.YtdknclhbnhiojaaDoorI18
namespace Go.Proofs.YtdknclhbnhiojaaDoor
open Go.RowKit
structure WiBox (p : Prg) (f : Fun') (b bf : Nat) (w0 w : World) : Prop where
  hp : BoxC (prgC p) 34 b w
  hf : BoxC (funC f) 43 bf w
  g : w0.grownBy w none
theorem WiBox.gr {p : Prg} {f : Fun'} {b bf : Nat} {w0 w w' : World} (h : WiBox p f b bf w0 w) (g : w.grownBy w' none) : WiBox p f b bf w0 w' := ⟨h.hp.gr g, h.hf.gr g, grownBy_trans h.g g⟩
def WlRel (p : Prg) (f : Fun') (w : World) (bf : Nat) (A : Option Addr) (n c : Nat) (l : List Int) (v : Value) (wr : World) : Prop :=
  ∃ k : Nat, k ≤ l.length ∧ v = .int .i64 k ∧ WiBox p f w.heap.size bf w wr ∧ IntsAt wr A n c l
def PcRel (p : Prg) (f : Fun') (w : World) (bf : Nat) (v : Value) (wr : World) : Prop := ∃ k : Nat, k ≤ f.code.length ∧ v = .int .i64 k ∧ WiBox p f w.heap.size bf w wr
def FnRel (p : Prg) (w : World) (v : Value) (wr : World) : Prop := ∃ k : Nat, k ≤ p.fns.length ∧ v = .int .i64 k ∧ w.grownBy wr none ∧ BoxC (prgC p) 34 w.heap.size wr
theorem reads_lenM (i : Ins) (h : i.args.length * 8 ≤ 140737488351232) : (readsI i).length ≤ maxLen := by
  have := regL_len i h
  unfold maxLen; omega
set_option maxRecDepth 100000 in
set_option maxHeartbeats 16000000 in
theorem within_walk (p : Prg) (w : World) (hv : VarsR w) (hp : PrgOk w p) :
    Calls Tryd.prog 5 #[prgV p] w fun e w' => e = .returned (.bool true) ∧ w.grownBy w' none := by
  have HV := Lib.hid hv
  have HP := Lib.hid hp
  have hg0 : w.grownBy (w.alloc (.cells (prgC p) 34)) none := by repeat (first | with_reducible exact grownBy_refl _ _ | with_reducible assumption | with_reducible refine World.grownBy.gr_drew ?_ | with_reducible refine World.grownBy.gr_set ?_ (by simp) _ | with_reducible refine gr_alloc ?_ _)
  have HB0 := Lib.hid (BoxC.new w (prgC p) 34)
  have HG0 := Lib.hid hg0
  clear hv hp hg0
  unfold prgV
  unfold prgC at HB0 HG0
  unfold prgC
  go_enter Tryd.func5, Tryd.ntmps5
  go_wp2_with fail
  refine (shown_any _ (HV.out.grown HG0.out)).mono ?_
  rintro e w1 ⟨rfl, hg1⟩
  have HG1 := Lib.hid (grownBy_trans HG0.out hg1)
  have HB1 := Lib.hid (show BoxC (prgC p) 34 w.heap.size w1 from BoxC.gr HB0.out hg1)
  obtain ⟨b0, b1, b2⟩ := boxP HB1.out
  clear hg1 HB0 HG0
  go_wp2_with fail
  refine (show Calls Tryd.prog 16 #[.agg #[.slice p.sa p.sites.length p.sc, .slice p.fa p.fns.length p.fc, .int .i64 p.main]] w1 _ from check_any p w1 (HV.out.grown HG1.out) (HP.out.keep (CellsK.of HG1.out))).mono ?_
  rintro e w2 ⟨rfl, hg2⟩
  have HG2 := Lib.hid (grownBy_trans HG1.out hg2)
  have HB2 := Lib.hid (HB1.out.gr hg2)
  have HGP' := Lib.hid (fun (h : (checkP p).2.2 = 0) => goodP_of h)
  unfold triV
  generalize checkP p = t at *
  obtain ⟨t1, t2, t3⟩ := t
  clear hg2 HG1 HB1 b0 b1 b2
  obtain ⟨b0, b1, b2⟩ := boxP HB2.out
  by_cases ht : t3 = 0
  · subst ht
    have HGP := Lib.hid (HGP'.out rfl)
    have hn1 := HP.out.2.1
    unfold maxLen at hn1
    clear HGP'
    go_wp2_with fail
    go_loopw [7] (fun v wx => FnRel p w v wx) (fun v _ => p.fns.length - (intOf v).toNat)
    case atStart => exact ⟨0, Nat.zero_le _, rfl, HG2.out, HB2.out⟩
    case round =>
      obtain ⟨k, hk, rfl, hgr, hbx⟩ := hrel
      have HG := Lib.hid hgr
      have HB := Lib.hid hbx
      clear b0 b1 b2
      obtain ⟨b0, b1, b2⟩ := boxP hbx
      by_cases hlt : k < p.fns.length
      · obtain ⟨ad, ha, f0, f1, f2, f3, f4⟩ := fun_cells (HP.out.2.2.2.1.keep (CellsK.of hgr)) hlt
        have HFK := Lib.hid (HP.out.2.2.2.2 _ (List.getElem_mem hlt))
        have HGA := Lib.hid (HGP.out.fns k _ (List.getElem?_eq_getElem hlt))
        generalize p.fns[k] = f at *
        have hsm := small_of HGA.out.1
        have HGF := Lib.hid (fun (c : Nat) (i : Ins) (hci : f.code[c]? = some i) => good_of (by omega) (HGA.out.2.2 c i hci))
        rw [ha] at b1
        clear ha
        have hbl := lt_of_heap hbx
        have HX0 := Lib.hid (show WiBox p f w.heap.size wr.heap.size w (wr.alloc (.cells (funC f) 43)) from ⟨hbx.gr (gr_alloc (grownBy_refl _ _) _), BoxC.new wr _ _, gr_alloc hgr _⟩)
        unfold funC at HX0
        clear hgr hbx
        go_wp2_with fail
        generalize wr.heap.size = bf at *
        go_loopw [9] (fun v wx => PcRel p f w bf v wx) (fun v _ => f.code.length - (intOf v).toNat)
        case atStart => exact ⟨0, Nat.zero_le _, rfl, HX0.out⟩
        case round =>
          obtain ⟨q, hq, rfl, hx⟩ := hrel
          have HX := Lib.hid hx
          clear b0 b1 b2 f0 f1 f2 f3 f4
          by_cases hcl : q < f.code.length
          · have HGD := Lib.hid (HGF.out q _ (List.getElem?_eq_getElem hcl))
            have HIK := Lib.hid (HFK.out.2.2.2.2 _ (List.getElem_mem hcl))
            have HQ := Lib.hid (show IntKind.i64.wrap ((q : Int) + 1) = (q : Int) + 1 by rw [IntKind.wrap_i64]; omega)
            obtain ⟨i, hic⟩ : ∃ i, f.code[q] = i := ⟨_, rfl⟩
            have HIC := Lib.hid hic
            rw [hic] at HGD HIK
            clear hic hx
            obtain ⟨cd, hcd, c0, c1, c2, c3, c4, c5, c6, c7⟩ := ins_cells (HFK.out.2.2.2.1.keep (CellsK.of HX.out.g)) hcl
            rw [HIC.out] at c0 c1 c2 c3 c4 c5 c6 c7
            obtain ⟨f0, f1, f2, f3, f4⟩ := boxF HX.out.hf
            rw [hcd] at f4
            clear hcd
            go_wp2_with fail
            refine (show Calls Tryd.prog 10 #[.agg #[.int .i64 i.op, .int .i64 i.a, .int .i64 i.b, .int .i64 i.c, .int .i64 i.w, .int .i64 i.n, .string i.sign, .slice i.aa i.an i.ac]] wr _ from Reads_any i wr (HV.out.grown HX.out.g) (HIK.out.1.keep (CellsK.of HX.out.g)) (by have := regL_len i HIK.out.2; omega)).mono ?_
            rintro e w3 ⟨A, n, c, rfl, hIn, hg3⟩
            have HX3 := Lib.hid (HX.out.gr hg3)
            have HL := Lib.hid hIn
            clear hIn hg3 HX f0 f1 f2 f3 f4 c0 c1 c2 c3 c4 c5 c6 c7
            go_wp2_with fail
            obtain rfl : n = (readsI i).length := HL.out.1
            go_loopw [11] (fun v wx => WlRel p f w bf A (readsI i).length c (readsI i) v wx) (fun v _ => (readsI i).length - (intOf v).toNat)
            case atStart => exact ⟨0, Nat.zero_le _, rfl, HX3.out, HL.out⟩
            case round =>
              obtain ⟨y, hy, rfl, hx, hi⟩ := hrel
              have HX := Lib.hid hx
              have HII := Lib.hid hi
              have hrl := reads_lenM i HIK.out.2
              unfold maxLen at hrl
              by_cases hyl : y < (readsI i).length
              · obtain ⟨ad2, rfl, hc0⟩ := hi.at_ hyl
                have f1 : wr.cell? ⟨bf, 1, none⟩ = some (.int .i64 f.regs) := (boxF HX.out.hf).2.1
                have hgd := HGD.out.reads _ (List.getElem_mem hyl)
                generalize (readsI i)[y] = x at *
                have e1 : decide (x < 0) = false := decide_eq_false (by omega)
                have e2 : decide (f.regs ≤ x) = false := decide_eq_false (by omega)
                clear hx hi hgd
                go_wp2_with fail
                go_quiet (fail)
                go_wp2_with fail
                go_roundw
                case rel => exact ⟨y + 1, by omega, by go_num, HX.out.gr (gr_drewN (grownBy_refl _ _) _), HII.out⟩
                case measure => simp [intOf]; omega
              · clear hx hi
                obtain ⟨cd, hcd, c0, c1, c2, c3, c4, c5, c6, c7⟩ := ins_cells (HFK.out.2.2.2.1.keep (CellsK.of HX.out.g)) hcl
                rw [HIC.out] at c0 c1 c2 c3 c4 c5 c6 c7
                obtain ⟨f0, f1, f2, f3, f4⟩ := boxF HX.out.hf
                rw [hcd] at f4
                clear hcd
                go_wp2_with fail
                refine (show Calls Tryd.prog 14 #[.agg #[.int .i64 i.op, .int .i64 i.a, .int .i64 i.b, .int .i64 i.c, .int .i64 i.w, .int .i64 i.n, .string i.sign, .slice i.aa i.an i.ac]] wr _ from Writes_any i wr (HV.out.grown HX.out.g)).mono ?_
                rintro e w5 ⟨rfl, hg5⟩
                have HX5 := Lib.hid (HX.out.gr hg5)
                clear hg5 f0 f1 f2 f3 f4 c0 c1 c2 c3 c4 c5 c6 c7 HX HII
                obtain ⟨cd, hcd, c0, c1, c2, c3, c4, c5, c6, c7⟩ := ins_cells (HFK.out.2.2.2.1.keep (CellsK.of HX5.out.g)) hcl
                rw [HIC.out] at c0 c1 c2 c3 c4 c5 c6 c7
                obtain ⟨f0, f1, f2, f3, f4⟩ := boxF HX5.out.hf
                rw [hcd] at f4
                clear hcd
                go_wp2_with fail
                refine (show Calls Tryd.prog 12 #[.agg #[.int .i64 i.op, .int .i64 i.a, .int .i64 i.b, .int .i64 i.c, .int .i64 i.w, .int .i64 i.n, .string i.sign, .slice i.aa i.an i.ac], .int .i64 (q : Int)] w5 _ from Next_any i q _ HQ.out w5).mono ?_
                rintro e w7 ⟨A, n, c, rfl, hIn, hg7⟩
                have HX7 := Lib.hid (HX5.out.gr hg7)
                have HL := Lib.hid hIn
                clear hIn hg7 HX5 f0 f1 f2 f3 f4 c0 c1 c2 c3 c4 c5 c6 c7
                go_wp2_with fail
                obtain rfl : n = (nextI i ((q : Int) + 1)).length := HL.out.1
                go_loopw [14] (fun v wx => WlRel p f w bf A (nextI i ((q : Int) + 1)).length c (nextI i ((q : Int) + 1)) v wx) (fun v _ => (nextI i ((q : Int) + 1)).length - (intOf v).toNat)
                case atStart => exact ⟨0, Nat.zero_le _, rfl, HX7.out, HL.out⟩
                case round =>
                  obtain ⟨y, hy, rfl, hx, hi⟩ := hrel
                  have HX := Lib.hid hx
                  have HII := Lib.hid hi
                  have hrl := nextI_len i ((q : Int) + 1)
                  unfold maxLen at hrl
                  by_cases hyl : y < (nextI i ((q : Int) + 1)).length
                  · obtain ⟨ad2, rfl, hc0⟩ := hi.at_ hyl
                    have f4 : wr.cell? ⟨bf, 4, none⟩ = some (.slice f.ca f.code.length f.cc) := (boxF HX.out.hf).2.2.2.2
                    have hgd := HGD.out.next _ (List.getElem_mem hyl)
                    generalize (nextI i ((q : Int) + 1))[y] = x at *
                    have e1 : decide (x < 0) = false := decide_eq_false (by omega)
                    have e2 : decide ((f.code.length : Int) ≤ x) = false := decide_eq_false (by omega)
                    clear hx hi hgd
                    go_wp2_with fail
                    go_quiet (fail)
                    go_wp2_with fail
                    go_roundw
                    case rel => exact ⟨y + 1, by omega, by go_num, HX.out.gr (gr_drewN (grownBy_refl _ _) _), HII.out⟩
                    case measure => simp [intOf]; omega
                  · clear hx hi
                    have hcx := (HFK.out.2.2.2.1.keep (CellsK.of HX.out.g))
                    obtain ⟨cd, hcd, c0, _⟩ := ins_cells hcx hcl
                    obtain ⟨f0, f1, f2, f3, f4⟩ := boxF HX.out.hf
                    rw [hcd] at f4
                    rw [HIC.out] at c0
                    have HY := HX
                    clear hcx hcd
                    have e4 : decide (wrI i < -1) = false := decide_eq_false (by have := HGD.out.wlo; omega)
                    have e5 : decide (f.regs ≤ wrI i) = false := decide_eq_false (by have := HGD.out.whi; omega)
                    generalize wrI i = wv at *
                    rcases hop : (i.op == 19)
                    · have hln : ((nextI i ((q : Int) + 1)).length == 0) = false := by
                        have h19 : ¬ i.op = 19 := by simpa using hop
                        unfold nextI; rw [if_neg h19]; repeat' split
                        all_goals simp
                      have e3 : (((nextI i ((q : Int) + 1)).length : Int) == 0) = false := by simpa using hln
                      have HLEN := Lib.hid hln
                      clear hln
                      go_wp2_with fail
                      go_roundw
                      case rel => exact ⟨q + 1, by omega, by go_num, HY.out⟩
                      case measure => simp [intOf]; omega
                    · have hln : (nextI i ((q : Int) + 1)) = [] := by
                        have h19 : i.op = 19 := by simpa using hop
                        unfold nextI; rw [if_pos h19]
                      have e3 : (((nextI i ((q : Int) + 1)).length : Int) == 0) = true := by rw [hln]; rfl
                      clear hln
                      go_wp2_with fail
                      go_roundw
                      case rel => exact ⟨q + 1, by omega, by go_num, HY.out⟩
                      case measure => simp [intOf]; omega
          · have hqq : q = f.code.length := by omega
            obtain ⟨f0, f1, f2, f3, f4⟩ := boxF hx.hf
            clear hx
            go_wp2_with fail
            go_roundw
            case rel => exact ⟨k + 1, by omega, by go_num, HX.out.g, HX.out.hp⟩
            case measure => simp [intOf]; omega
      · clear hbx hgr
        go_wp2_with fail
        go_ret
        exact ⟨rfl, HG.out⟩
  · have e1 : (t3 != 0) = true := by simpa using ht
    clear ht
    go_wp2_with fail
    go_ret
    exact ⟨rfl, HG2.out⟩

end Go.Proofs.YtdknclhbnhiojaaDoor
