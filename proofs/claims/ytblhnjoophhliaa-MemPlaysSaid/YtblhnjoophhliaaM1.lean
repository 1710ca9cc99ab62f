/- mem: values, bytes and blocks as plain data; the small tests. -/
import Derived.Test.YtblhnjoophhliaaChecked
import Derived.WalkKit
import Derived.WalkSpells
import Derived.WalkLawsBesides
import Derived.Outline
import Derived.RegionTactic
import Derived.BigRegion
import Derived.WalkSmall
import Derived.Lib.Hide
import Derived.OwnWalk
import Derived.Laws.OwnMore
import Derived.Laws.CopyOwn
import Derived.Laws.StructEq
import Derived.Below
import Derived.OneCell
import Derived.Deep.QuietTactic
import Derived.BigQuiet
import Derived.LoopTactic
namespace Go.Proofs.Ytblhnjoophhliaa
open Go.RowKit
/-- A value; a byte; a block. -/
structure Val where
  n : Int
  b : Int
  f : Int
deriving DecidableEq
structure Byt where
  k : Int
  v : Int
  p : Val
deriving DecidableEq
structure Blk where
  site : Int
  live : Bool
  bytes : List Byt
def val0 : Val := ⟨0, 0, 0⟩
def byt0 : Byt := ⟨0, 0, val0⟩
def valC (v : Val) : Array Value := #[.int .i64 v.n, .int .i64 v.b, .int .i64 v.f]
def valV (v : Val) : Value := .agg (valC v)
def bytC (b : Byt) : Array Value := #[.int .i64 b.k, .int .u8 b.v, .int .i64 b.p.n, .int .i64 b.p.b, .int .i64 b.p.f]
def bytV (b : Byt) : Value := .agg (bytC b)
def numB (v : Val) : Bool := decide (v.b = 0 ∧ v.f = 0)
def ptrB (v : Val) : Bool := decide (0 < v.b ∧ v.f = 0)
def partB (v : Val) : Bool := decide (1 ≤ v.f ∧ v.f ≤ 8)
def widB (w : Int) : Bool := decide (w = 1 ∨ w = 4 ∨ w = 8)
def lenB (n : Int) : Bool := decide (0 ≤ n ∧ n ≤ 4096)
theorem grownBy_refl (w : World) (r : Option Nat) : w.grownBy w r := ⟨rfl, rfl, rfl, Nat.le_refl _, fun _ _ _ => rfl⟩
theorem grownBy_trans {a b c : World} {r : Option Nat} (h : a.grownBy b r) (k : b.grownBy c r) : a.grownBy c r :=
  ⟨k.os.trans h.os, k.tape.trans h.tape, k.output.trans h.output, Nat.le_trans h.size k.size, fun i hi hn => (k.block i (Nat.lt_of_lt_of_le hi h.size) hn).trans (h.block i hi hn)⟩
theorem gr_alloc {a b : World} {r : Option Nat} (h : a.grownBy b r) (o : Obj) : a.grownBy (b.alloc o) r :=
  ⟨h.os, h.tape, h.output, Nat.le_trans h.size (by simp), fun k hk hn => (Below.heap_alloc _ _ _ (Nat.lt_of_lt_of_le hk h.size)).trans (h.block k hk hn)⟩
theorem _root_.Go.World.grownBy.gr_drew {a b : World} {r : Option Nat} (h : a.grownBy b r) : a.grownBy b.drew r := ⟨h.os, h.tape, h.output, h.size, h.block⟩
theorem _root_.Go.World.grownBy.gr_set {a b : World} {r : Option Nat} (h : a.grownBy b r) {p : Addr} (hp : a.heap.size ≤ p.block) (v : Value) : a.grownBy (b.setCell p v) r :=
  ⟨h.os, h.tape, h.output, by rw [show (b.setCell p v).heap.size = b.heap.size by simp [World.setCell]]; exact h.size, fun k hk hn => (Below.heap_setCell _ _ _ _ (by omega)).trans (h.block k hk hn)⟩
theorem lt_of_heap {w : World} {b : Nat} {o : Obj} (h : w.heap[b]? = some o) : b < w.heap.size := (Array.getElem?_eq_some_iff.1 h).1
/-- Two tests joined, each told ahead. -/
theorem numB_no {v : Val} (h : ¬ (v.b = 0 ∧ v.f = 0)) : numB v = false := by unfold numB; simpa using h
set_option maxRecDepth 100000 in
set_option maxHeartbeats 2000000 in
theorem isNumber_any (v : Val) (w : World) :
    Calls Try.prog 44 #[valV v] w fun e w' => e = .returned (.bool (numB v)) ∧ w.grownBy w' none := by
  obtain ⟨n, b, f⟩ := v
  unfold valV valC numB
  dsimp only
  by_cases h0 : b = 0
  · by_cases h1 : f = 0
    · rw [decide_eq_true ⟨h0, h1⟩]
      subst h0 h1
      go_enter Try.func44, Try.ntmps44
      go_wp2_with fail
      go_ret
      exact ⟨rfl, by repeat (first | with_reducible exact grownBy_refl _ _ | with_reducible assumption | with_reducible refine World.grownBy.gr_drew ?_ | with_reducible refine World.grownBy.gr_set ?_ (by simp) _ | with_reducible refine gr_alloc ?_ _)⟩
    · rw [decide_eq_false (fun h => h1 h.2)]
      subst h0
      have e1 : (f == 0) = false := by simpa using h1
      clear h1
      go_enter Try.func44, Try.ntmps44
      go_wp2_with fail
      go_ret
      exact ⟨rfl, by repeat (first | with_reducible exact grownBy_refl _ _ | with_reducible assumption | with_reducible refine World.grownBy.gr_drew ?_ | with_reducible refine World.grownBy.gr_set ?_ (by simp) _ | with_reducible refine gr_alloc ?_ _)⟩
  · rw [decide_eq_false (fun h => h0 h.1)]
    have e1 : (b == 0) = false := by simpa using h0
    clear h0
    go_enter Try.func44, Try.ntmps44
    go_wp2_with fail
    go_ret
    exact ⟨rfl, by repeat (first | with_reducible exact grownBy_refl _ _ | with_reducible assumption | with_reducible refine World.grownBy.gr_drew ?_ | with_reducible refine World.grownBy.gr_set ?_ (by simp) _ | with_reducible refine gr_alloc ?_ _)⟩
set_option maxRecDepth 100000 in
set_option maxHeartbeats 2000000 in
theorem r10_Number_any (v : Val) (w : World) :
    Calls Try.prog 45 #[valV v] w fun e w' => e = .returned (.bool (numB v)) ∧ w.grownBy w' none := by
  obtain ⟨n, b, f⟩ := v
  unfold valV valC numB
  dsimp only
  by_cases h0 : b = 0
  · by_cases h1 : f = 0
    · rw [decide_eq_true ⟨h0, h1⟩]
      subst h0 h1
      go_enter Try.func45, Try.ntmps45
      go_wp2_with fail
      go_ret
      exact ⟨rfl, by repeat (first | with_reducible exact grownBy_refl _ _ | with_reducible assumption | with_reducible refine World.grownBy.gr_drew ?_ | with_reducible refine World.grownBy.gr_set ?_ (by simp) _ | with_reducible refine gr_alloc ?_ _)⟩
    · rw [decide_eq_false (fun h => h1 h.2)]
      subst h0
      have e1 : (f == 0) = false := by simpa using h1
      clear h1
      go_enter Try.func45, Try.ntmps45
      go_wp2_with fail
      go_ret
      exact ⟨rfl, by repeat (first | with_reducible exact grownBy_refl _ _ | with_reducible assumption | with_reducible refine World.grownBy.gr_drew ?_ | with_reducible refine World.grownBy.gr_set ?_ (by simp) _ | with_reducible refine gr_alloc ?_ _)⟩
  · rw [decide_eq_false (fun h => h0 h.1)]
    have e1 : (b == 0) = false := by simpa using h0
    clear h0
    go_enter Try.func45, Try.ntmps45
    go_wp2_with fail
    go_ret
    exact ⟨rfl, by repeat (first | with_reducible exact grownBy_refl _ _ | with_reducible assumption | with_reducible refine World.grownBy.gr_drew ?_ | with_reducible refine World.grownBy.gr_set ?_ (by simp) _ | with_reducible refine gr_alloc ?_ _)⟩
set_option maxRecDepth 100000 in
set_option maxHeartbeats 2000000 in
theorem isPointer_any (v : Val) (w : World) :
    Calls Try.prog 46 #[valV v] w fun e w' => e = .returned (.bool (ptrB v)) ∧ w.grownBy w' none := by
  obtain ⟨n, b, f⟩ := v
  unfold valV valC ptrB
  dsimp only
  by_cases h0 : 0 < b
  · by_cases h1 : f = 0
    · rw [decide_eq_true ⟨h0, h1⟩]
      subst h1
      go_enter Try.func46, Try.ntmps46
      go_wp2_with fail
      go_ret
      exact ⟨rfl, by repeat (first | with_reducible exact grownBy_refl _ _ | with_reducible assumption | with_reducible refine World.grownBy.gr_drew ?_ | with_reducible refine World.grownBy.gr_set ?_ (by simp) _ | with_reducible refine gr_alloc ?_ _)⟩
    · rw [decide_eq_false (fun h => h1 h.2)]
      have e1 : (f == 0) = false := by simpa using h1
      clear h1
      go_enter Try.func46, Try.ntmps46
      go_wp2_with fail
      go_ret
      exact ⟨rfl, by repeat (first | with_reducible exact grownBy_refl _ _ | with_reducible assumption | with_reducible refine World.grownBy.gr_drew ?_ | with_reducible refine World.grownBy.gr_set ?_ (by simp) _ | with_reducible refine gr_alloc ?_ _)⟩
  · rw [decide_eq_false (fun h => h0 h.1)]
    go_enter Try.func46, Try.ntmps46
    go_wp2_with fail
    go_ret
    exact ⟨rfl, by repeat (first | with_reducible exact grownBy_refl _ _ | with_reducible assumption | with_reducible refine World.grownBy.gr_drew ?_ | with_reducible refine World.grownBy.gr_set ?_ (by simp) _ | with_reducible refine gr_alloc ?_ _)⟩
set_option maxRecDepth 100000 in
set_option maxHeartbeats 2000000 in
theorem r10_Pointer_any (v : Val) (w : World) :
    Calls Try.prog 40 #[valV v] w fun e w' => e = .returned (.bool (ptrB v)) ∧ w.grownBy w' none := by
  obtain ⟨n, b, f⟩ := v
  unfold valV valC ptrB
  dsimp only
  by_cases h0 : 0 < b
  · by_cases h1 : f = 0
    · rw [decide_eq_true ⟨h0, h1⟩]
      subst h1
      go_enter Try.func40, Try.ntmps40
      go_wp2_with fail
      go_ret
      exact ⟨rfl, by repeat (first | with_reducible exact grownBy_refl _ _ | with_reducible assumption | with_reducible refine World.grownBy.gr_drew ?_ | with_reducible refine World.grownBy.gr_set ?_ (by simp) _ | with_reducible refine gr_alloc ?_ _)⟩
    · rw [decide_eq_false (fun h => h1 h.2)]
      have e1 : (f == 0) = false := by simpa using h1
      clear h1
      go_enter Try.func40, Try.ntmps40
      go_wp2_with fail
      go_ret
      exact ⟨rfl, by repeat (first | with_reducible exact grownBy_refl _ _ | with_reducible assumption | with_reducible refine World.grownBy.gr_drew ?_ | with_reducible refine World.grownBy.gr_set ?_ (by simp) _ | with_reducible refine gr_alloc ?_ _)⟩
  · rw [decide_eq_false (fun h => h0 h.1)]
    go_enter Try.func40, Try.ntmps40
    go_wp2_with fail
    go_ret
    exact ⟨rfl, by repeat (first | with_reducible exact grownBy_refl _ _ | with_reducible assumption | with_reducible refine World.grownBy.gr_drew ?_ | with_reducible refine World.grownBy.gr_set ?_ (by simp) _ | with_reducible refine gr_alloc ?_ _)⟩
set_option maxRecDepth 100000 in
set_option maxHeartbeats 2000000 in
theorem isPart_any (v : Val) (w : World) :
    Calls Try.prog 51 #[valV v] w fun e w' => e = .returned (.bool (partB v)) ∧ w.grownBy w' none := by
  obtain ⟨n, b, f⟩ := v
  unfold valV valC partB
  dsimp only
  by_cases h0 : 1 ≤ f
  · by_cases h1 : f ≤ 8
    · rw [decide_eq_true ⟨h0, h1⟩]
      go_enter Try.func51, Try.ntmps51
      go_wp2_with fail
      go_ret
      exact ⟨rfl, by repeat (first | with_reducible exact grownBy_refl _ _ | with_reducible assumption | with_reducible refine World.grownBy.gr_drew ?_ | with_reducible refine World.grownBy.gr_set ?_ (by simp) _ | with_reducible refine gr_alloc ?_ _)⟩
    · rw [decide_eq_false (fun h => h1 h.2)]
      go_enter Try.func51, Try.ntmps51
      go_wp2_with fail
      go_ret
      exact ⟨rfl, by repeat (first | with_reducible exact grownBy_refl _ _ | with_reducible assumption | with_reducible refine World.grownBy.gr_drew ?_ | with_reducible refine World.grownBy.gr_set ?_ (by simp) _ | with_reducible refine gr_alloc ?_ _)⟩
  · rw [decide_eq_false (fun h => h0 h.1)]
    go_enter Try.func51, Try.ntmps51
    go_wp2_with fail
    go_ret
    exact ⟨rfl, by repeat (first | with_reducible exact grownBy_refl _ _ | with_reducible assumption | with_reducible refine World.grownBy.gr_drew ?_ | with_reducible refine World.grownBy.gr_set ?_ (by simp) _ | with_reducible refine gr_alloc ?_ _)⟩
set_option maxRecDepth 100000 in
set_option maxHeartbeats 2000000 in
theorem isWidth_any (n : Int) (w : World) :
    Calls Try.prog 35 #[.int .i64 n] w fun e w' => e = .returned (.bool (widB n)) ∧ w = w' := by
  unfold widB
  by_cases h1 : n = 1
  · rw [decide_eq_true (.inl h1)]
    subst h1
    go_enter Try.func35, Try.ntmps35
    go_wp2_with fail
    go_ret
    exact ⟨rfl, rfl⟩
  · have e1 : (n == 1) = false := by simpa using h1
    by_cases h4 : n = 4
    · rw [decide_eq_true (.inr (.inl h4))]
      subst h4
      clear h1 e1
      go_enter Try.func35, Try.ntmps35
      go_wp2_with fail
      go_ret
      exact ⟨rfl, rfl⟩
    · have e4 : (n == 4) = false := by simpa using h4
      by_cases h8 : n = 8
      · rw [decide_eq_true (.inr (.inr h8))]
        subst h8
        clear h1 h4 e1 e4
        go_enter Try.func35, Try.ntmps35
        go_wp2_with fail
        go_ret
        exact ⟨rfl, rfl⟩
      · have e8 : (n == 8) = false := by simpa using h8
        rw [decide_eq_false (by omega)]
        clear h1 h4 h8
        go_enter Try.func35, Try.ntmps35
        go_wp2_with fail
        go_ret
        exact ⟨rfl, rfl⟩
set_option maxRecDepth 100000 in
set_option maxHeartbeats 2000000 in
theorem isLength_any (n : Int) (w : World) :
    Calls Try.prog 42 #[.int .i64 n] w fun e w' => e = .returned (.bool (lenB n)) ∧ w = w' := by
  unfold lenB
  by_cases h0 : 0 ≤ n
  · by_cases h1 : n ≤ 4096
    · rw [decide_eq_true ⟨h0, h1⟩]
      go_enter Try.func42, Try.ntmps42
      go_wp2_with fail
      go_ret
      exact ⟨rfl, rfl⟩
    · rw [decide_eq_false (fun h => h1 h.2)]
      go_enter Try.func42, Try.ntmps42
      go_wp2_with fail
      go_ret
      exact ⟨rfl, rfl⟩
  · rw [decide_eq_false (fun h => h0 h.1)]
    go_enter Try.func42, Try.ntmps42
    go_wp2_with fail
    go_ret
    exact ⟨rfl, rfl⟩

end Go.Proofs.Ytblhnjoophhliaa
