/- ctype: the table of kinds; kindOf, Number, Scalar, Width, toVoid, record. -/
import Derived.Test.YtjfbkogjgjmndaaDoorChecked
import Derived.WalkKit
import Derived.WalkSpells
import Derived.WalkLawsBesides
import Derived.Outline
import Derived.RegionTactic
import Derived.BigRegion
import Derived.WalkSmall
import Derived.Lib.Hide
import Derived.OwnWalk
import Derived.Laws.OwnMore
import Derived.Below
import Derived.OneCell
namespace Go.Proofs.YtjfbkogjgjmndaaDoor
open Go.RowKit
def kindsC : Array Value := #[.int .i64 0, .bool false, .int .i64 0, .int .i64 0, .int .i64 0, .int .i64 0, .bool false, .int .i64 0, .int .i64 0, .int .i64 0, .int .i64 1, .bool true, .int .i64 0, .int .i64 0, .int .i64 0, .int .i64 4, .bool true, .int .i64 0, .int .i64 0, .int .i64 0, .int .i64 8, .bool true, .int .i64 0, .int .i64 0, .int .i64 0, .int .i64 8, .bool false, .int .i64 0, .int .i64 0, .int .i64 1, .int .i64 0, .bool false, .int .i64 0, .int .i64 4096, .int .i64 1, .int .i64 0, .bool false, .int .i64 24, .int .i64 0, .int .i64 0, .int .i64 0, .bool false, .int .i64 24, .int .i64 0, .int .i64 0, .int .i64 0, .bool false, .int .i64 0, .int .i64 0, .int .i64 7]
/-- What the row's list gives: the table of kinds. -/
def VarsK (w : World) : Prop := ∃ t fr, w.heap[0]? = some (.cells kindsC t fr)
def widthK (k : Int) : Int := if k = 2 then 1 else if k = 3 then 4 else if k = 4 ∨ k = 5 then 8 else 0
def numK (k : Int) : Bool := decide (k = 2 ∨ k = 3 ∨ k = 4)
def nameK (k : Int) : Int := if k = 7 ∨ k = 8 then 24 else 0
def sizeK (k : Int) : Int := if k = 6 then 4096 else 0
def partsK (k : Int) : Int := if k = 5 ∨ k = 6 then 1 else if k = 9 then 7 else 0
def kindV (k : Int) : Value := .agg #[.int .i64 (widthK k), .bool (numK k), .int .i64 (nameK k), .int .i64 (sizeK k), .int .i64 (partsK k)]
theorem kinds_cells {w : World} (h : VarsK w) {k : Int} (h1 : 1 ≤ k) (h9 : k ≤ 9) :
    w.cell? ⟨0, k.toNat * 5, none⟩ = some (.int .i64 (widthK k)) ∧ w.cell? ⟨0, k.toNat * 5 + 1, none⟩ = some (.bool (numK k)) ∧ w.cell? ⟨0, k.toNat * 5 + 2, none⟩ = some (.int .i64 (nameK k)) ∧
    w.cell? ⟨0, k.toNat * 5 + 3, none⟩ = some (.int .i64 (sizeK k)) ∧ w.cell? ⟨0, k.toNat * 5 + 4, none⟩ = some (.int .i64 (partsK k)) := by
  obtain ⟨t, fr, h⟩ := h
  have hc := fun j => cell_of_row w 0 j _ _ _ h
  have hk : k = 1 ∨ k = 2 ∨ k = 3 ∨ k = 4 ∨ k = 5 ∨ k = 6 ∨ k = 7 ∨ k = 8 ∨ k = 9 := by omega
  rcases hk with rfl | rfl | rfl | rfl | rfl | rfl | rfl | rfl | rfl
  all_goals exact ⟨by rw [hc]; rfl, by rw [hc]; rfl, by rw [hc]; rfl, by rw [hc]; rfl, by rw [hc]; rfl⟩
def tV (k n : Int) (s : ByteArray) (v : Value) : Value := .agg #[.int .i64 k, .int .i64 n, .string s, v]
theorem grownBy_refl (w : World) (r : Option Nat) : w.grownBy w r := ⟨rfl, rfl, rfl, Nat.le_refl _, fun _ _ _ => rfl⟩
theorem grownBy_trans {a b c : World} {r : Option Nat} (h : a.grownBy b r) (k : b.grownBy c r) : a.grownBy c r :=
  ⟨k.os.trans h.os, k.tape.trans h.tape, k.output.trans h.output, Nat.le_trans h.size k.size, fun i hi hn => (k.block i (Nat.lt_of_lt_of_le hi h.size) hn).trans (h.block i hi hn)⟩
theorem gr_alloc {a b : World} {r : Option Nat} (h : a.grownBy b r) (o : Obj) : a.grownBy (b.alloc o) r :=
  ⟨h.os, h.tape, h.output, Nat.le_trans h.size (by simp), fun k hk hn => (Below.heap_alloc _ _ _ (Nat.lt_of_lt_of_le hk h.size)).trans (h.block k hk hn)⟩
theorem _root_.Go.World.grownBy.gr_drew {a b : World} {r : Option Nat} (h : a.grownBy b r) : a.grownBy b.drew r := ⟨h.os, h.tape, h.output, h.size, h.block⟩
theorem _root_.Go.World.grownBy.gr_set {a b : World} {r : Option Nat} (h : a.grownBy b r) {p : Addr} (hp : a.heap.size ≤ p.block) (v : Value) : a.grownBy (b.setCell p v) r :=
  ⟨h.os, h.tape, h.output, by rw [show (b.setCell p v).heap.size = b.heap.size by simp [World.setCell]]; exact h.size, fun k hk hn => (Below.heap_setCell _ _ _ _ (by omega)).trans (h.block k hk hn)⟩
theorem lt_of_heap {w : World} {b : Nat} {o : Obj} (h : w.heap[b]? = some o) : b < w.heap.size := (Array.getElem?_eq_some_iff.1 h).1
theorem VarsK.grown {w w' : World} (h : VarsK w) (g : w.grownBy w' none) : VarsK w' := by
  obtain ⟨t, fr, h⟩ := h
  exact ⟨t, fr, by rw [g.block _ (lt_of_heap h) (by simp)]; exact h⟩
theorem VarsK.alloc {w : World} (h : VarsK w) (o : Obj) : VarsK (w.alloc o) := h.grown (gr_alloc (grownBy_refl _ _) o)
set_option maxRecDepth 100000 in
set_option maxHeartbeats 2000000 in
theorem kindOf_yes (k n : Int) (s : ByteArray) (v : Value) (h1 : 1 ≤ k) (h9 : k ≤ 9) (w : World) (hv : VarsK w) :
    Calls Tryd.prog 29 #[tV k n s v] w fun e w' => e = .returned (.tuple #[kindV k, .bool true]) ∧ w.grownBy w' none := by
  have g1 : decide (k < 1) = false := by simp; omega
  have g2 : decide (10 ≤ k) = false := by simp; omega
  have g0 : 0 ≤ k := by omega
  have hp : 0 < w.heap.size := lt_of_heap hv.choose_spec.choose_spec
  obtain ⟨c0, c1, c2, c3, c4⟩ := kinds_cells hv h1 h9
  unfold tV kindV
  generalize widthK k = a0 at *
  generalize numK k = a1 at *
  generalize nameK k = a2 at *
  generalize sizeK k = a3 at *
  generalize partsK k = a4 at *
  clear hv
  go_enter Tryd.func29, Tryd.ntmps29
  go_wp2_with fail
  refine bodyPost_ret (v := .tuple #[.agg #[.int .i64 a0, .bool a1, .int .i64 a2, .int .i64 a3, .int .i64 a4], .bool true]) (by simp [results, Tryd.results29, go_sem]) rfl ⟨rfl, by repeat (first | with_reducible exact grownBy_refl _ _ | with_reducible assumption | with_reducible refine World.grownBy.gr_drew ?_ | with_reducible refine World.grownBy.gr_set ?_ (by simp) _ | with_reducible refine gr_alloc ?_ _)⟩
set_option maxRecDepth 100000 in
set_option maxHeartbeats 2000000 in
theorem kindOf_no (k n : Int) (s : ByteArray) (v : Value) (hk : k < 1 ∨ 10 ≤ k) (w : World) :
    Calls Tryd.prog 29 #[tV k n s v] w fun e w' => e = .returned (.tuple #[.agg #[.int .i64 0, .bool false, .int .i64 0, .int .i64 0, .int .i64 0], .bool false]) ∧ w.grownBy w' none := by
  unfold tV
  rcases hk with hk | hk
  · have g1 : decide (k < 1) = true := by simp; omega
    clear hk
    go_enter Tryd.func29, Tryd.ntmps29
    go_wp2_with fail
    refine bodyPost_ret (v := .tuple #[.agg #[.int .i64 0, .bool false, .int .i64 0, .int .i64 0, .int .i64 0], .bool false]) (by simp [results, Tryd.results29, go_sem]) rfl ⟨rfl, by repeat (first | with_reducible exact grownBy_refl _ _ | with_reducible assumption | with_reducible refine World.grownBy.gr_drew ?_ | with_reducible refine World.grownBy.gr_set ?_ (by simp) _ | with_reducible refine gr_alloc ?_ _)⟩
  · have g1 : decide (k < 1) = false := by simp; omega
    have g2 : decide (10 ≤ k) = true := by simp; omega
    clear hk
    go_enter Tryd.func29, Tryd.ntmps29
    go_wp2_with fail
    refine bodyPost_ret (v := .tuple #[.agg #[.int .i64 0, .bool false, .int .i64 0, .int .i64 0, .int .i64 0], .bool false]) (by simp [results, Tryd.results29, go_sem]) rfl ⟨rfl, by repeat (first | with_reducible exact grownBy_refl _ _ | with_reducible assumption | with_reducible refine World.grownBy.gr_drew ?_ | with_reducible refine World.grownBy.gr_set ?_ (by simp) _ | with_reducible refine gr_alloc ?_ _)⟩
/-- kindOf's first answer, whatever the kind. -/
theorem kindOf_any (k n : Int) (s : ByteArray) (v : Value) (w : World) (hv : VarsK w) :
    Calls Tryd.prog 29 #[tV k n s v] w fun e w' => ∃ (a b c : Int) (t : Bool), e = .returned (.tuple #[.agg #[.int .i64 (widthK k), .bool (numK k), .int .i64 a, .int .i64 b, .int .i64 c], .bool t]) ∧ w.grownBy w' none := by
  by_cases h1 : 1 ≤ k
  · by_cases h9 : k ≤ 9
    · exact (kindOf_yes k n s v h1 h9 w hv).mono fun e w' ⟨h, g⟩ => ⟨_, _, _, _, h, g⟩
    · refine (kindOf_no k n s v (by omega) w).mono fun e w' ⟨h, g⟩ => ⟨0, 0, 0, false, h.trans ?_, g⟩
      have e1 : widthK k = 0 := by unfold widthK; repeat rw [if_neg (by omega)]
      have e2 : numK k = false := by unfold numK; simp; omega
      rw [e1, e2]
  · refine (kindOf_no k n s v (by omega) w).mono fun e w' ⟨h, g⟩ => ⟨0, 0, 0, false, h.trans ?_, g⟩
    have e1 : widthK k = 0 := by unfold widthK; repeat rw [if_neg (by omega)]
    have e2 : numK k = false := by unfold numK; simp; omega
    rw [e1, e2]
set_option maxRecDepth 100000 in
set_option maxHeartbeats 2000000 in
theorem Number_any (k n : Int) (s : ByteArray) (v : Value) (w : World) (hv : VarsK w) :
    Calls Tryd.prog 28 #[tV k n s v] w fun e w' => e = .returned (.bool (numK k)) ∧ w.grownBy w' none := by
  have HV := Lib.hid hv
  clear hv
  unfold tV
  go_enter Tryd.func28, Tryd.ntmps28
  go_wp2_with fail
  refine (kindOf_any k n s v _ (HV.out.alloc _)).mono ?_
  rintro e w1 ⟨a, b, c, t, rfl, hg⟩
  have HG := Lib.hid hg
  clear hg
  go_wp2_with fail
  go_ret
  exact ⟨rfl, by refine gr_alloc ?_ _; exact grownBy_trans (by repeat (first | with_reducible exact grownBy_refl _ _ | with_reducible assumption | with_reducible refine World.grownBy.gr_drew ?_ | with_reducible refine World.grownBy.gr_set ?_ (by simp) _ | with_reducible refine gr_alloc ?_ _)) HG.out⟩
set_option maxRecDepth 100000 in
set_option maxHeartbeats 2000000 in
theorem Width_any (k n : Int) (s : ByteArray) (v : Value) (w : World) (hv : VarsK w) :
    Calls Tryd.prog 24 #[tV k n s v] w fun e w' => e = .returned (.int .i64 (widthK k)) ∧ w.grownBy w' none := by
  have HV := Lib.hid hv
  clear hv
  unfold tV
  go_enter Tryd.func24, Tryd.ntmps24
  go_wp2_with fail
  refine (kindOf_any k n s v _ (HV.out.alloc _)).mono ?_
  rintro e w1 ⟨a, b, c, t, rfl, hg⟩
  have HG := Lib.hid hg
  clear hg
  go_wp2_with fail
  go_ret
  exact ⟨rfl, by refine gr_alloc ?_ _; exact grownBy_trans (by repeat (first | with_reducible exact grownBy_refl _ _ | with_reducible assumption | with_reducible refine World.grownBy.gr_drew ?_ | with_reducible refine World.grownBy.gr_set ?_ (by simp) _ | with_reducible refine gr_alloc ?_ _)) HG.out⟩

end Go.Proofs.YtjfbkogjgjmndaaDoor
