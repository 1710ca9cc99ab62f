/- IrPlain, walked. -/
import Derived.Test.YtdknclhbnhiojaaDoorI7
namespace Go.Proofs.YtdknclhbnhiojaaDoor
open Go.RowKit
theorem wrI_or (i : Ins) : wrI i = -1 ∨ wrI i = i.a := by unfold wrI; split <;> simp
theorem readsI_out (i : Ins) (h : i.op < 1 ∨ 20 < i.op) : readsI i = [] := by
  rw [readsI_tab]; unfold tabR
  repeat rw [if_neg (by omega)]
theorem wrI_out (i : Ins) (h : i.op < 1 ∨ 20 < i.op) : wrI i = -1 := by
  unfold wrI wrB
  rw [if_neg (by simp; omega)]
set_option maxRecDepth 100000 in
set_option maxHeartbeats 4000000 in
theorem plain_k19 (i : Ins) (pc : Int) (h0 : 0 ≤ pc) (h1 : pc < 65536) (w : World) (hv : VarsR w) (hA : IntsAt w i.aa i.an i.ac i.args) (hop : i.op = 19) :
    Calls Tryd.prog 7 #[insV i, .int .u16 pc] w fun e w' => e = .returned (.bool true) ∧ w.grownBy w' none := by
  have HV := Lib.hid hv
  have HA := Lib.hid hA
  have hq : IntKind.i64.wrap (pc + 1) = pc + 1 := by rw [IntKind.wrap_i64]; omega
  have HQ := Lib.hid hq
  have HOP := Lib.hid hop
  have ho1 : 1 ≤ i.op := by omega
  have ho2 : i.op ≤ 20 := by omega
  have e17 : (i.op != 17) = true := by rw [hop]; rfl
  have e18 : (i.op != 18) = true := by rw [hop]; rfl
  have e19 : (i.op != 19) = false := by rw [hop]; rfl
  have f19 : (i.op == 19) = true := by rw [hop]; rfl
  clear hop
  clear hv hA hq
  unfold insV insC
  go_enter Tryd.func7, Tryd.ntmps7
  go_wp2_with fail
  refine (shown_any _ (HV.out.alloc _)).mono ?_
  rintro e w1 ⟨rfl, hg1⟩
  have HG1 := Lib.hid (grownBy_trans (show w.grownBy (w.alloc (.cells (insC i) 24)) none by repeat (first | with_reducible exact grownBy_refl _ _ | with_reducible assumption | with_reducible refine World.grownBy.gr_drew ?_ | with_reducible refine World.grownBy.gr_set ?_ (by simp) _ | with_reducible refine gr_alloc ?_ _)) hg1)
  have hb1 : BoxI i w.heap.size w1 := BoxI.gr (heap_alloc_new w (.cells (insC i) 24)) hg1
  have HB1 := Lib.hid hb1
  obtain ⟨c0, c1, c2, c3, c4, c5, c6, c7⟩ := hb1.cells
  clear hg1 hb1
  go_wp2_with fail
  refine (show Calls Tryd.prog 12 #[insV i, .int .i64 pc] _ _ from Next_any i pc (pc + 1) HQ.out _).mono ?_
  rintro e w2 ⟨A, n, c, rfl, hI, hg2⟩
  rw [show nextI i (pc + 1) = [] from by unfold nextI; rw [HOP.out]; simp] at hI
  have HG2 := Lib.hid (grownBy_trans HG1.out hg2)
  have hb2 : BoxI i w.heap.size w2 := HB1.out.gr hg2
  have HB2 := Lib.hid hb2
  clear c0 c1 c2 c3 c4 c5 c6 c7
  obtain ⟨c0, c1, c2, c3, c4, c5, c6, c7⟩ := hb2.cells
  clear hg2 hb2 HB1 HG1
  have HI := Lib.hid hI
  have hn := hI.1
  simp only [List.length_cons, List.length_nil] at hn
  subst hn
  clear hI
  go_wp2_with fail
  have HG3 := HG2
  have HB3 := HB2
  refine (show Calls Tryd.prog 14 #[insV i] _ _ from Writes_any i _ (HV.out.grown HG3.out)).mono ?_
  rintro e w4 ⟨rfl, hg4⟩
  have HG4 := Lib.hid (grownBy_trans HG3.out hg4)
  have hb4 : BoxI i w.heap.size w4 := HB3.out.gr hg4
  have HB4 := Lib.hid hb4
  clear c0 c1 c2 c3 c4 c5 c6 c7
  obtain ⟨c0, c1, c2, c3, c4, c5, c6, c7⟩ := hb4.cells
  clear hg4 hb4 HB3 HG3
  rcases wrI_or i with hw | hw
  all_goals
    rw [hw]
    clear hw
    go_wp2_with fail
    all_goals
      go_ret
      exact ⟨rfl, HG4.out⟩
set_option maxRecDepth 100000 in
set_option maxHeartbeats 4000000 in
theorem plain_k17 (i : Ins) (pc : Int) (h0 : 0 ≤ pc) (h1 : pc < 65536) (w : World) (hv : VarsR w) (hA : IntsAt w i.aa i.an i.ac i.args) (hop : i.op = 17) :
    Calls Tryd.prog 7 #[insV i, .int .u16 pc] w fun e w' => e = .returned (.bool true) ∧ w.grownBy w' none := by
  have HV := Lib.hid hv
  have HA := Lib.hid hA
  have hq : IntKind.i64.wrap (pc + 1) = pc + 1 := by rw [IntKind.wrap_i64]; omega
  have HQ := Lib.hid hq
  have HOP := Lib.hid hop
  have ho1 : 1 ≤ i.op := by omega
  have ho2 : i.op ≤ 20 := by omega
  have e17 : (i.op != 17) = false := by rw [hop]; rfl
  have e18 : (i.op != 18) = true := by rw [hop]; rfl
  have e19 : (i.op != 19) = true := by rw [hop]; rfl
  have f19 : (i.op == 19) = false := by rw [hop]; rfl
  clear hop
  clear hv hA hq
  unfold insV insC
  go_enter Tryd.func7, Tryd.ntmps7
  go_wp2_with fail
  refine (shown_any _ (HV.out.alloc _)).mono ?_
  rintro e w1 ⟨rfl, hg1⟩
  have HG1 := Lib.hid (grownBy_trans (show w.grownBy (w.alloc (.cells (insC i) 24)) none by repeat (first | with_reducible exact grownBy_refl _ _ | with_reducible assumption | with_reducible refine World.grownBy.gr_drew ?_ | with_reducible refine World.grownBy.gr_set ?_ (by simp) _ | with_reducible refine gr_alloc ?_ _)) hg1)
  have hb1 : BoxI i w.heap.size w1 := BoxI.gr (heap_alloc_new w (.cells (insC i) 24)) hg1
  have HB1 := Lib.hid hb1
  obtain ⟨c0, c1, c2, c3, c4, c5, c6, c7⟩ := hb1.cells
  clear hg1 hb1
  go_wp2_with fail
  refine (show Calls Tryd.prog 12 #[insV i, .int .i64 pc] _ _ from Next_any i pc (pc + 1) HQ.out _).mono ?_
  rintro e w2 ⟨A, n, c, rfl, hI, hg2⟩
  rw [show nextI i (pc + 1) = [i.n] from by unfold nextI; rw [HOP.out]; simp] at hI
  have HG2 := Lib.hid (grownBy_trans HG1.out hg2)
  have hb2 : BoxI i w.heap.size w2 := HB1.out.gr hg2
  have HB2 := Lib.hid hb2
  clear c0 c1 c2 c3 c4 c5 c6 c7
  obtain ⟨c0, c1, c2, c3, c4, c5, c6, c7⟩ := hb2.cells
  clear hg2 hb2 HB1 HG1
  have HI := Lib.hid hI
  have hn := hI.1
  simp only [List.length_cons, List.length_nil] at hn
  subst hn
  clear hI
  go_wp2_with fail
  have HG3 := HG2
  have HB3 := HB2
  refine (show Calls Tryd.prog 14 #[insV i] _ _ from Writes_any i _ (HV.out.grown HG3.out)).mono ?_
  rintro e w4 ⟨rfl, hg4⟩
  have HG4 := Lib.hid (grownBy_trans HG3.out hg4)
  have hb4 : BoxI i w.heap.size w4 := HB3.out.gr hg4
  have HB4 := Lib.hid hb4
  clear c0 c1 c2 c3 c4 c5 c6 c7
  obtain ⟨c0, c1, c2, c3, c4, c5, c6, c7⟩ := hb4.cells
  clear hg4 hb4 HB3 HG3
  rcases wrI_or i with hw | hw
  all_goals
    rw [hw]
    clear hw
    go_wp2_with fail
    all_goals
      go_ret
      exact ⟨rfl, HG4.out⟩
set_option maxRecDepth 100000 in
set_option maxHeartbeats 4000000 in
theorem plain_k18 (i : Ins) (pc : Int) (h0 : 0 ≤ pc) (h1 : pc < 65536) (w : World) (hv : VarsR w) (hA : IntsAt w i.aa i.an i.ac i.args) (hop : i.op = 18) :
    Calls Tryd.prog 7 #[insV i, .int .u16 pc] w fun e w' => e = .returned (.bool true) ∧ w.grownBy w' none := by
  have HV := Lib.hid hv
  have HA := Lib.hid hA
  have hq : IntKind.i64.wrap (pc + 1) = pc + 1 := by rw [IntKind.wrap_i64]; omega
  have HQ := Lib.hid hq
  have HOP := Lib.hid hop
  have ho1 : 1 ≤ i.op := by omega
  have ho2 : i.op ≤ 20 := by omega
  have e17 : (i.op != 17) = true := by rw [hop]; rfl
  have e18 : (i.op != 18) = false := by rw [hop]; rfl
  have e19 : (i.op != 19) = true := by rw [hop]; rfl
  have f19 : (i.op == 19) = false := by rw [hop]; rfl
  clear hop
  clear hv hA hq
  unfold insV insC
  go_enter Tryd.func7, Tryd.ntmps7
  go_wp2_with fail
  refine (shown_any _ (HV.out.alloc _)).mono ?_
  rintro e w1 ⟨rfl, hg1⟩
  have HG1 := Lib.hid (grownBy_trans (show w.grownBy (w.alloc (.cells (insC i) 24)) none by repeat (first | with_reducible exact grownBy_refl _ _ | with_reducible assumption | with_reducible refine World.grownBy.gr_drew ?_ | with_reducible refine World.grownBy.gr_set ?_ (by simp) _ | with_reducible refine gr_alloc ?_ _)) hg1)
  have hb1 : BoxI i w.heap.size w1 := BoxI.gr (heap_alloc_new w (.cells (insC i) 24)) hg1
  have HB1 := Lib.hid hb1
  obtain ⟨c0, c1, c2, c3, c4, c5, c6, c7⟩ := hb1.cells
  clear hg1 hb1
  go_wp2_with fail
  refine (show Calls Tryd.prog 12 #[insV i, .int .i64 pc] _ _ from Next_any i pc (pc + 1) HQ.out _).mono ?_
  rintro e w2 ⟨A, n, c, rfl, hI, hg2⟩
  rw [show nextI i (pc + 1) = (if i.n = pc + 1 then [pc + 1] else [pc + 1, i.n]) from by unfold nextI; rw [HOP.out]; by_cases h : i.n = pc + 1 <;> simp [h]] at hI
  have HG2 := Lib.hid (grownBy_trans HG1.out hg2)
  have hb2 : BoxI i w.heap.size w2 := HB1.out.gr hg2
  have HB2 := Lib.hid hb2
  clear c0 c1 c2 c3 c4 c5 c6 c7
  obtain ⟨c0, c1, c2, c3, c4, c5, c6, c7⟩ := hb2.cells
  clear hg2 hb2 HB1 HG1
  have HI := Lib.hid hI
  clear hI HI
  go_wp2_with fail
  have HG3 := HG2
  have HB3 := HB2
  refine (show Calls Tryd.prog 14 #[insV i] _ _ from Writes_any i _ (HV.out.grown HG3.out)).mono ?_
  rintro e w4 ⟨rfl, hg4⟩
  have HG4 := Lib.hid (grownBy_trans HG3.out hg4)
  have hb4 : BoxI i w.heap.size w4 := HB3.out.gr hg4
  have HB4 := Lib.hid hb4
  clear c0 c1 c2 c3 c4 c5 c6 c7
  obtain ⟨c0, c1, c2, c3, c4, c5, c6, c7⟩ := hb4.cells
  clear hg4 hb4 HB3 HG3
  rcases wrI_or i with hw | hw
  all_goals
    rw [hw]
    clear hw
    go_wp2_with fail
    all_goals
      go_ret
      exact ⟨rfl, HG4.out⟩
set_option maxRecDepth 100000 in
set_option maxHeartbeats 4000000 in
theorem plain_in (i : Ins) (pc : Int) (h0 : 0 ≤ pc) (h1 : pc < 65536) (w : World) (hv : VarsR w) (hA : IntsAt w i.aa i.an i.ac i.args) (n17 : ¬ i.op = 17) (n18 : ¬ i.op = 18) (n19 : ¬ i.op = 19) (ho1 : 1 ≤ i.op) (ho2 : i.op ≤ 20) :
    Calls Tryd.prog 7 #[insV i, .int .u16 pc] w fun e w' => e = .returned (.bool true) ∧ w.grownBy w' none := by
  have HV := Lib.hid hv
  have HA := Lib.hid hA
  have hq : IntKind.i64.wrap (pc + 1) = pc + 1 := by rw [IntKind.wrap_i64]; omega
  have HQ := Lib.hid hq
  have e17 : (i.op != 17) = true := by simpa using n17
  have e18 : (i.op != 18) = true := by simpa using n18
  have e19 : (i.op != 19) = true := by simpa using n19
  have f19 : (i.op == 19) = false := by simpa using n19
  have N17 := Lib.hid n17
  have N18 := Lib.hid n18
  have N19 := Lib.hid n19
  clear n17 n18 n19
  clear hv hA hq
  unfold insV insC
  go_enter Tryd.func7, Tryd.ntmps7
  go_wp2_with fail
  refine (shown_any _ (HV.out.alloc _)).mono ?_
  rintro e w1 ⟨rfl, hg1⟩
  have HG1 := Lib.hid (grownBy_trans (show w.grownBy (w.alloc (.cells (insC i) 24)) none by repeat (first | with_reducible exact grownBy_refl _ _ | with_reducible assumption | with_reducible refine World.grownBy.gr_drew ?_ | with_reducible refine World.grownBy.gr_set ?_ (by simp) _ | with_reducible refine gr_alloc ?_ _)) hg1)
  have hb1 : BoxI i w.heap.size w1 := BoxI.gr (heap_alloc_new w (.cells (insC i) 24)) hg1
  have HB1 := Lib.hid hb1
  obtain ⟨c0, c1, c2, c3, c4, c5, c6, c7⟩ := hb1.cells
  clear hg1 hb1
  go_wp2_with fail
  refine (show Calls Tryd.prog 12 #[insV i, .int .i64 pc] _ _ from Next_any i pc (pc + 1) HQ.out _).mono ?_
  rintro e w2 ⟨A, n, c, rfl, hI, hg2⟩
  rw [show nextI i (pc + 1) = [pc + 1] from by unfold nextI; rw [if_neg N19.out, if_neg N17.out, if_neg (fun h => N18.out h.1)]] at hI
  have HG2 := Lib.hid (grownBy_trans HG1.out hg2)
  have hb2 : BoxI i w.heap.size w2 := HB1.out.gr hg2
  have HB2 := Lib.hid hb2
  clear c0 c1 c2 c3 c4 c5 c6 c7
  obtain ⟨c0, c1, c2, c3, c4, c5, c6, c7⟩ := hb2.cells
  clear hg2 hb2 HB1 HG1
  have HI := Lib.hid hI
  clear hI
  go_wp2_with fail
  refine (Ints_same _ _ _ _ _ _ [pc + 1] _ (HI.out.keep (CellsK.alloc _ _)) (IntsAt.new w2 [pc + 1] _ _ _ _ rfl rfl) (by simp [maxLen])).mono ?_
  rintro e w3 ⟨rfl, hg3⟩
  have HG3 := Lib.hid (grownBy_trans (gr_alloc HG2.out _) hg3)
  have hb3 : BoxI i w.heap.size w3 := (HB2.out.gr (gr_alloc (grownBy_refl _ _) _)).gr hg3
  have HB3 := Lib.hid hb3
  clear c0 c1 c2 c3 c4 c5 c6 c7
  obtain ⟨c0, c1, c2, c3, c4, c5, c6, c7⟩ := hb3.cells
  clear hg3 hb3 HB2 HG2
  go_wp2_with fail
  refine (show Calls Tryd.prog 14 #[insV i] _ _ from Writes_any i _ (HV.out.grown HG3.out)).mono ?_
  rintro e w4 ⟨rfl, hg4⟩
  have HG4 := Lib.hid (grownBy_trans HG3.out hg4)
  have hb4 : BoxI i w.heap.size w4 := HB3.out.gr hg4
  have HB4 := Lib.hid hb4
  clear c0 c1 c2 c3 c4 c5 c6 c7
  obtain ⟨c0, c1, c2, c3, c4, c5, c6, c7⟩ := hb4.cells
  clear hg4 hb4 HB3 HG3
  rcases wrI_or i with hw | hw
  all_goals
    rw [hw]
    clear hw
    go_wp2_with fail
    all_goals
      go_ret
      exact ⟨rfl, HG4.out⟩
set_option maxRecDepth 100000 in
set_option maxHeartbeats 4000000 in
theorem plain_out (i : Ins) (pc : Int) (h0 : 0 ≤ pc) (h1 : pc < 65536) (w : World) (hv : VarsR w) (hA : IntsAt w i.aa i.an i.ac i.args) (ho : i.op < 1 ∨ 20 < i.op) :
    Calls Tryd.prog 7 #[insV i, .int .u16 pc] w fun e w' => e = .returned (.bool true) ∧ w.grownBy w' none := by
  have HV := Lib.hid hv
  have HA := Lib.hid hA
  have hq : IntKind.i64.wrap (pc + 1) = pc + 1 := by rw [IntKind.wrap_i64]; omega
  have HQ := Lib.hid hq
  have n17 : ¬ i.op = 17 := by omega
  have n18 : ¬ i.op = 18 := by omega
  have n19 : ¬ i.op = 19 := by omega
  have e17 : (i.op != 17) = true := by simpa using n17
  have e18 : (i.op != 18) = true := by simpa using n18
  have e19 : (i.op != 19) = true := by simpa using n19
  have f19 : (i.op == 19) = false := by simpa using n19
  have N17 := Lib.hid n17
  have N18 := Lib.hid n18
  have N19 := Lib.hid n19
  have HO := Lib.hid ho
  have hg : (decide (1 ≤ i.op) = true ∧ decide (i.op ≤ 20) = false) ∨ decide (1 ≤ i.op) = false := by
    by_cases h : 1 ≤ i.op
    · exact .inl ⟨by simpa using h, by simp; omega⟩
    · exact .inr (by simpa using h)
  clear n17 n18 n19 ho
  clear hv hA hq
  unfold insV insC
  go_enter Tryd.func7, Tryd.ntmps7
  go_wp2_with fail
  refine (shown_any _ (HV.out.alloc _)).mono ?_
  rintro e w1 ⟨rfl, hg1⟩
  have HG1 := Lib.hid (grownBy_trans (show w.grownBy (w.alloc (.cells (insC i) 24)) none by repeat (first | with_reducible exact grownBy_refl _ _ | with_reducible assumption | with_reducible refine World.grownBy.gr_drew ?_ | with_reducible refine World.grownBy.gr_set ?_ (by simp) _ | with_reducible refine gr_alloc ?_ _)) hg1)
  have hb1 : BoxI i w.heap.size w1 := BoxI.gr (heap_alloc_new w (.cells (insC i) 24)) hg1
  have HB1 := Lib.hid hb1
  obtain ⟨c0, c1, c2, c3, c4, c5, c6, c7⟩ := hb1.cells
  clear hg1 hb1
  go_wp2_with fail
  refine (show Calls Tryd.prog 12 #[insV i, .int .i64 pc] _ _ from Next_any i pc (pc + 1) HQ.out _).mono ?_
  rintro e w2 ⟨A, n, c, rfl, hI, hg2⟩
  rw [show nextI i (pc + 1) = [pc + 1] from by unfold nextI; rw [if_neg N19.out, if_neg N17.out, if_neg (fun h => N18.out h.1)]] at hI
  have HG2 := Lib.hid (grownBy_trans HG1.out hg2)
  have hb2 : BoxI i w.heap.size w2 := HB1.out.gr hg2
  have HB2 := Lib.hid hb2
  clear c0 c1 c2 c3 c4 c5 c6 c7
  obtain ⟨c0, c1, c2, c3, c4, c5, c6, c7⟩ := hb2.cells
  clear hg2 hb2 HB1 HG1
  have HI := Lib.hid hI
  clear hI
  go_wp2_with fail
  refine (Ints_same _ _ _ _ _ _ [pc + 1] _ (HI.out.keep (CellsK.alloc _ _)) (IntsAt.new w2 [pc + 1] _ _ _ _ rfl rfl) (by simp [maxLen])).mono ?_
  rintro e w3 ⟨rfl, hg3⟩
  have HG3 := Lib.hid (grownBy_trans (gr_alloc HG2.out _) hg3)
  have hb3 : BoxI i w.heap.size w3 := (HB2.out.gr (gr_alloc (grownBy_refl _ _) _)).gr hg3
  have HB3 := Lib.hid hb3
  clear c0 c1 c2 c3 c4 c5 c6 c7
  obtain ⟨c0, c1, c2, c3, c4, c5, c6, c7⟩ := hb3.cells
  clear hg3 hb3 HB2 HG2
  go_wp2_with fail
  refine (show Calls Tryd.prog 14 #[insV i] _ _ from Writes_any i _ (HV.out.grown HG3.out)).mono ?_
  rintro e w4 ⟨rfl, hg4⟩
  have HG4 := Lib.hid (grownBy_trans HG3.out hg4)
  have hb4 : BoxI i w.heap.size w4 := HB3.out.gr hg4
  have HB4 := Lib.hid hb4
  clear c0 c1 c2 c3 c4 c5 c6 c7
  obtain ⟨c0, c1, c2, c3, c4, c5, c6, c7⟩ := hb4.cells
  clear hg4 hb4 HB3 HG3
  rw [show wrI i = -1 from wrI_out i HO.out]
  rcases hg with ⟨g1, g2⟩ | g1
  all_goals
    go_wp2_with fail
    refine (show Calls Tryd.prog 10 #[insV i] _ _ from Reads_any i _ (HV.out.grown HG4.out) (HA.out.keep (CellsK.of HG4.out)) (by rw [readsI_out i HO.out]; decide)).mono ?_
    rintro e w5 ⟨A', n', c', rfl, hI', hg5⟩
    rw [readsI_out i HO.out] at hI'
    have HG5 := Lib.hid (grownBy_trans HG4.out hg5)
    have hn := hI'.1
    simp only [List.length_nil] at hn
    subst hn
    clear hI' hg5 c0 c1 c2 c3 c4 c5 c6 c7
    go_wp2_with fail
    go_ret
    exact ⟨rfl, HG5.out⟩
theorem plain_walk (i : Ins) (pc : Int) (h0 : 0 ≤ pc) (h1 : pc < 65536) (w : World) (hv : VarsR w) (hA : IntsAt w i.aa i.an i.ac i.args) :
    Calls Tryd.prog 7 #[insV i, .int .u16 pc] w fun e w' => e = .returned (.bool true) ∧ w.grownBy w' none := by
  by_cases a : i.op = 17
  · exact plain_k17 i pc h0 h1 w hv hA a
  by_cases b : i.op = 18
  · exact plain_k18 i pc h0 h1 w hv hA b
  by_cases c : i.op = 19
  · exact plain_k19 i pc h0 h1 w hv hA c
  by_cases d : 1 ≤ i.op ∧ i.op ≤ 20
  · exact plain_in i pc h0 h1 w hv hA a b c d.1 d.2
  · exact plain_out i pc h0 h1 w hv hA (by omega)

end Go.Proofs.YtdknclhbnhiojaaDoor
