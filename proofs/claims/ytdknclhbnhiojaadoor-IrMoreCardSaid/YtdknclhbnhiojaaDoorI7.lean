/- ir: where an instruction leads; two lists of ints that are alike. -/
import Derived.Test.YtdknclhbnhiojaaDoorI6
import Derived.Deep.QuietTactic
import Derived.BigQuiet
namespace Go.Proofs.YtdknclhbnhiojaaDoor
open Go.RowKit
theorem gr_drewN {a b : World} {r : Option Nat} (h : a.grownBy b r) (n : Nat) : a.grownBy (b.drewN n) r := ⟨h.os, h.tape, h.output, h.size, h.block⟩
def nextI (i : Ins) (q : Int) : List Int := if i.op = 19 then [] else if i.op = 17 then [i.n] else if i.op = 18 ∧ i.n ≠ q then [q, i.n] else [q]
theorem IntsAt.at_ {w : World} {A : Option Addr} {n c : Nat} {l : List Int} (h : IntsAt w A n c l) {k : Nat} (hk : k < l.length) : ∃ ad, A = some ad ∧ w.cell? (ad.add k) = some (.int .i64 (l[k]'hk)) := by
  rcases h.2 with ⟨_, hn, _⟩ | ⟨ad, e, hc⟩
  · have := h.1; omega
  · exact ⟨ad, e, hc k _ (List.getElem?_eq_getElem hk)⟩
set_option maxRecDepth 100000 in
set_option maxHeartbeats 4000000 in
theorem Ints_same (A B : Option Addr) (n m c d : Nat) (l : List Int) (w : World) (hA : IntsAt w A n c l) (hB : IntsAt w B m d l) (hl : l.length ≤ maxLen) :
    Calls Tryd.prog 9 #[.slice A n c, .slice B m d] w fun e w' => e = .returned (.bool true) ∧ w.grownBy w' none := by
  unfold maxLen at hl
  have HA := Lib.hid hA
  have HB := Lib.hid hB
  obtain rfl : n = l.length := hA.1
  obtain rfl : l.length = m := hB.1.symm
  clear hA hB
  go_enter Tryd.func9, Tryd.ntmps9
  go_wp2_with fail
  go_loopw [5] (fun i wr => ∃ k : Nat, k ≤ l.length ∧ i = .int .i64 k ∧ w.grownBy wr none) (fun i _ => l.length - (intOf i).toNat)
  case atStart => exact ⟨0, Nat.zero_le _, rfl, grownBy_refl _ _⟩
  case round =>
    obtain ⟨k, hk, rfl, hg⟩ := hrel
    have HG := Lib.hid hg
    clear hg
    by_cases hlt : k < l.length
    · obtain ⟨ad, rfl, hc1⟩ := (HA.out.keep (CellsK.of HG.out)).at_ hlt
      obtain ⟨bd, rfl, hc2⟩ := (HB.out.keep (CellsK.of HG.out)).at_ hlt
      generalize l[k] = x at hc1 hc2
      go_wp2_with fail
      go_quiet (fail)
      go_wp2_with fail
      go_roundw
      case rel => exact ⟨k + 1, by omega, by go_num, gr_drewN HG.out _⟩
      case measure => simp [intOf]; omega
    · go_wp2_with fail
      go_ret
      exact ⟨rfl, HG.out⟩
set_option maxRecDepth 100000 in
set_option maxHeartbeats 4000000 in
theorem Next_any (i : Ins) (pc q : Int) (hq : IntKind.i64.wrap (pc + 1) = q) (w : World) :
    Calls Tryd.prog 12 #[insV i, .int .i64 pc] w fun e w' => RetInts w (nextI i q) e w' := by
  obtain ⟨op, a, b, c, ww, n, sign, aa, an, ac, args⟩ := i
  unfold nextI insV insC
  simp only []
  by_cases h19 : op = 19
  · subst h19
    rw [if_pos rfl]
    go_enter Tryd.func12, Tryd.ntmps12
    go_wp2_with fail
    go_ret
    exact RetInts.mk (IntsAt.nil _) (by repeat (first | with_reducible exact grownBy_refl _ _ | with_reducible assumption | with_reducible refine World.grownBy.gr_drew ?_ | with_reducible refine World.grownBy.gr_set ?_ (by simp) _ | with_reducible refine gr_alloc ?_ _))
  rw [if_neg h19]
  by_cases h17 : op = 17
  · subst h17
    rw [if_pos rfl]
    go_enter Tryd.func12, Tryd.ntmps12
    go_wp2_with fail
    go_ret
    exact RetInts.mk (IntsAt.new _ [n] _ _ _ _ rfl (by simp)) (by repeat (first | with_reducible exact grownBy_refl _ _ | with_reducible assumption | with_reducible refine World.grownBy.gr_drew ?_ | with_reducible refine World.grownBy.gr_set ?_ (by simp) _ | with_reducible refine gr_alloc ?_ _))
  rw [if_neg h17]
  have e19 : (op == 19) = false := by simpa using h19
  have e17 : (op == 17) = false := by simpa using h17
  by_cases h18 : op = 18
  · subst h18
    by_cases hn : n = q
    · rw [if_neg (by simp [hn])]
      subst hn
      clear h19 h17 e19 e17
      go_enter Tryd.func12, Tryd.ntmps12
      go_wp2_with fail
      go_ret
      exact RetInts.mk (IntsAt.new _ [_] _ _ _ _ rfl (by simp)) (by repeat (first | with_reducible exact grownBy_refl _ _ | with_reducible assumption | with_reducible refine World.grownBy.gr_drew ?_ | with_reducible refine World.grownBy.gr_set ?_ (by simp) _ | with_reducible refine gr_alloc ?_ _))
    · rw [if_pos ⟨rfl, hn⟩]
      have e1 : (n == q) = false := by simpa using hn
      have e2 : (n != q) = true := by simpa using hn
      clear h19 h17 e19 e17 hn
      go_enter Tryd.func12, Tryd.ntmps12
      go_wp2_with fail
      go_ret
      exact RetInts.mk (IntsAt.new _ [q, n] _ _ _ _ rfl (by simp)) (by repeat (first | with_reducible exact grownBy_refl _ _ | with_reducible assumption | with_reducible refine World.grownBy.gr_drew ?_ | with_reducible refine World.grownBy.gr_set ?_ (by simp) _ | with_reducible refine gr_alloc ?_ _))
  · rw [if_neg (fun h => h18 h.1)]
    have e18 : (op == 18) = false := by simpa using h18
    clear h19 h17 h18
    go_enter Tryd.func12, Tryd.ntmps12
    go_wp2_with fail
    go_ret
    exact RetInts.mk (IntsAt.new _ [q] _ _ _ _ rfl (by simp)) (by repeat (first | with_reducible exact grownBy_refl _ _ | with_reducible assumption | with_reducible refine World.grownBy.gr_drew ?_ | with_reducible refine World.grownBy.gr_set ?_ (by simp) _ | with_reducible refine gr_alloc ?_ _))
set_option maxRecDepth 100000 in
set_option maxHeartbeats 4000000 in
theorem r8_Next_any (i : Ins) (pc q : Int) (hq : IntKind.i64.wrap (pc + 1) = q) (w : World) :
    Calls Tryd.prog 13 #[insV i, .int .i64 pc] w fun e w' => RetInts w (nextI i q) e w' := by
  obtain ⟨op, a, b, c, ww, n, sign, aa, an, ac, args⟩ := i
  unfold nextI insV insC
  simp only []
  by_cases h19 : op = 19
  · subst h19
    rw [if_pos rfl]
    go_enter Tryd.func13, Tryd.ntmps13
    go_wp2_with fail
    go_ret
    exact RetInts.mk (IntsAt.nil _) (by repeat (first | with_reducible exact grownBy_refl _ _ | with_reducible assumption | with_reducible refine World.grownBy.gr_drew ?_ | with_reducible refine World.grownBy.gr_set ?_ (by simp) _ | with_reducible refine gr_alloc ?_ _))
  rw [if_neg h19]
  by_cases h17 : op = 17
  · subst h17
    rw [if_pos rfl]
    go_enter Tryd.func13, Tryd.ntmps13
    go_wp2_with fail
    go_ret
    exact RetInts.mk (IntsAt.new _ [n] _ _ _ _ rfl (by simp)) (by repeat (first | with_reducible exact grownBy_refl _ _ | with_reducible assumption | with_reducible refine World.grownBy.gr_drew ?_ | with_reducible refine World.grownBy.gr_set ?_ (by simp) _ | with_reducible refine gr_alloc ?_ _))
  rw [if_neg h17]
  have e19 : (op == 19) = false := by simpa using h19
  have e17 : (op == 17) = false := by simpa using h17
  by_cases h18 : op = 18
  · subst h18
    by_cases hn : n = q
    · rw [if_neg (by simp [hn])]
      subst hn
      clear h19 h17 e19 e17
      go_enter Tryd.func13, Tryd.ntmps13
      go_wp2_with fail
      go_ret
      exact RetInts.mk (IntsAt.new _ [_] _ _ _ _ rfl (by simp)) (by repeat (first | with_reducible exact grownBy_refl _ _ | with_reducible assumption | with_reducible refine World.grownBy.gr_drew ?_ | with_reducible refine World.grownBy.gr_set ?_ (by simp) _ | with_reducible refine gr_alloc ?_ _))
    · rw [if_pos ⟨rfl, hn⟩]
      have e1 : (n == q) = false := by simpa using hn
      have e2 : (n != q) = true := by simpa using hn
      clear h19 h17 e19 e17 hn
      go_enter Tryd.func13, Tryd.ntmps13
      go_wp2_with fail
      go_ret
      exact RetInts.mk (IntsAt.new _ [q, n] _ _ _ _ rfl (by simp)) (by repeat (first | with_reducible exact grownBy_refl _ _ | with_reducible assumption | with_reducible refine World.grownBy.gr_drew ?_ | with_reducible refine World.grownBy.gr_set ?_ (by simp) _ | with_reducible refine gr_alloc ?_ _))
  · rw [if_neg (fun h => h18 h.1)]
    have e18 : (op == 18) = false := by simpa using h18
    clear h19 h17 h18
    go_enter Tryd.func13, Tryd.ntmps13
    go_wp2_with fail
    go_ret
    exact RetInts.mk (IntsAt.new _ [q] _ _ _ _ rfl (by simp)) (by repeat (first | with_reducible exact grownBy_refl _ _ | with_reducible assumption | with_reducible refine World.grownBy.gr_drew ?_ | with_reducible refine World.grownBy.gr_set ?_ (by simp) _ | with_reducible refine gr_alloc ?_ _))
def insS : Ins := ⟨9, 3, 4, 0, 8, 0, ⟨#[]⟩, none, 0, 0, []⟩
def insJ : Ins := ⟨18, 0, 0, 0, 0, 7, ⟨#[]⟩, none, 0, 0, []⟩
set_option maxRecDepth 100000 in
set_option maxHeartbeats 4000000 in
theorem shown_any (w : World) (hv : VarsR w) :
    Calls Tryd.prog 8 #[] w fun e w' => e = .returned (.bool true) ∧ w.grownBy w' none := by
  have HV := Lib.hid hv
  clear hv
  go_enter Tryd.func8, Tryd.ntmps8
  go_wp2_with fail
  refine (show Calls Tryd.prog 10 #[insV insS] _ _ from Reads_any insS _ (HV.out.alloc _) (IntsAt.nil _) (by decide)).mono ?_
  rintro e w1 ⟨A, n, c, rfl, hI, hg1⟩
  have HI := Lib.hid (show IntsAt w1 A n c [3, 4] from hI)
  have HG1 := Lib.hid (grownBy_trans (show w.grownBy (w.alloc (.cells (insC insS) 24)) none by repeat (first | with_reducible exact grownBy_refl _ _ | with_reducible assumption | with_reducible refine World.grownBy.gr_drew ?_ | with_reducible refine World.grownBy.gr_set ?_ (by simp) _ | with_reducible refine gr_alloc ?_ _)) hg1)
  have HB1 := Lib.hid (show BoxI insS w.heap.size w1 from BoxI.gr (heap_alloc_new w (.cells (insC insS) 24)) hg1)
  clear hI hg1
  go_wp2_with fail
  refine (Ints_same _ _ _ _ _ _ [3, 4] _ (HI.out.keep (CellsK.alloc _ _)) (IntsAt.new w1 [3, 4] _ _ _ _ rfl rfl) (by unfold maxLen; decide)).mono ?_
  rintro e w2 ⟨rfl, hg2⟩
  have HG2 := Lib.hid (grownBy_trans (gr_alloc HG1.out _) hg2)
  have hb2 : BoxI insS w.heap.size w2 := (HB1.out.gr (gr_alloc (grownBy_refl _ _) _)).gr hg2
  obtain ⟨c0, c1, c2, c3, c4, c5, c6, c7⟩ := hb2.cells
  simp only [insS] at c0 c1 c2 c3 c4 c5 c6 c7
  clear hg2 HI HB1 hb2 HG1
  go_wp2_with fail
  refine (show Calls Tryd.prog 14 #[insV insS] _ _ from Writes_any insS _ (HV.out.grown HG2.out)).mono ?_
  rintro e w3 ⟨rfl, hg3⟩
  rw [show wrI insS = -1 from rfl]
  have HG3 := Lib.hid (grownBy_trans HG2.out hg3)
  clear hg3 c0 c1 c2 c3 c4 c5 c6 c7 HG2
  go_wp2_with fail
  refine (show Calls Tryd.prog 12 #[insV insJ, .int .i64 2] _ _ from Next_any insJ 2 3 (by decide) _).mono ?_
  rintro e w4 ⟨A', n', c', rfl, hI, hg4⟩
  have HI := Lib.hid (show IntsAt w4 A' n' c' [3, 7] from hI)
  have HG4 := Lib.hid (grownBy_trans HG3.out hg4)
  clear hI hg4 HG3
  go_wp2_with fail
  refine (Ints_same _ _ _ _ _ _ [3, 7] _ (HI.out.keep (CellsK.alloc _ _)) (IntsAt.new w4 [3, 7] _ _ _ _ rfl rfl) (by unfold maxLen; decide)).mono ?_
  rintro e w5 ⟨rfl, hg5⟩
  have HG5 := Lib.hid (grownBy_trans (gr_alloc HG4.out _) hg5)
  clear hg5 HI HG4
  go_wp2_with fail
  go_ret
  exact ⟨rfl, HG5.out⟩

end Go.Proofs.YtdknclhbnhiojaaDoor
