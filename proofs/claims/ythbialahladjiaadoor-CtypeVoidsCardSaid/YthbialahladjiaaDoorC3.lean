/- ctype: fresh and Decay where there is little; shown. -/
import Derived.Test.YthbialahladjiaaDoorC2
import Derived.Deep.LoopGhost
import Derived.Deep.RegionHeld3
import Derived.Deep.DrawnRows
import Derived.Deep.AppendLies
namespace Go.Proofs.YthbialahladjiaaDoor
open Go.RowKit
theorem blk_alloc {w : World} {k : Nat} {o : Obj} (h : w.heap[k]? = some o) (o' : Obj) : (w.alloc o').heap[k]? = some o := blk_grown h (gr_alloc (grownBy_refl _ _) _)
theorem blk_new4 (W : World) (o o1 o2 o3 : Obj) : ((((W.alloc o).alloc o1).alloc o2).alloc o3).heap[W.heap.size + 3]? = some o3 := by
  have h := blk_new (((W.alloc o).alloc o1).alloc o2) o3
  simpa using h
theorem set_heap {w : World} {b t : Nat} {c : Array Value} {fr : Nat × Nat} (h : w.heap[b]? = some (.cells c t fr)) (j : Nat) (v : Value) : (w.setCell ⟨b, j, none⟩ v).heap[b]? = some (.cells (c.setIfInBounds j v) t fr) := by
  unfold World.setCell
  simp [Array.getElem?_modify, h]
theorem set_other {w : World} {b k : Nat} {o : Obj} (h : w.heap[k]? = some o) (hne : k ≠ b) (j : Nat) (v : Value) : (w.setCell ⟨b, j, none⟩ v).heap[k]? = some o := by
  rw [Below.heap_setCell _ _ _ _ hne]; exact h
set_option maxRecDepth 100000 in
set_option maxHeartbeats 2000000 in
theorem fresh_leaf (k n : Int) (s : ByteArray) (w : World) :
    Calls Tryd.prog 26 #[tV k n s (.slice none 0 0)] w fun e w' => e = .returned (tV k n s (.slice none 0 0)) ∧ w.grownBy w' none := by
  unfold tV
  have hmm := @run_makeMap Tryd.prog
  go_enter Tryd.func26, Tryd.ntmps26
  go_wp2_with fail
  go_loopg [5] 1 (fun g v wr => Hid (wr.heap[w.heap.size]? = some (.cells #[.int .i64 k, .int .i64 n, .string s, .slice none 0 0] 24 (0, 0))) ∧ Hid (wr.heap[w.heap.size + 1]? = some (.cells #[.int .i64 0, .int .i64 0, .string ⟨#[]⟩, .slice none 0 0] 24)) ∧ Hid (w.grownBy wr none) ∧
    (g = 1 ∧ v = .slice (some ⟨w.heap.size + 3, 0, none⟩) 1 1 ∧ wr.cell? ⟨w.heap.size + 3, 0, none⟩ = some (.pointer (some ⟨w.heap.size, 0, none⟩)) ∨ g = 0 ∧ v = .slice (some ⟨w.heap.size + 3, 0, none⟩) 0 1))
  case atStart =>
    exact ⟨blk_alloc (blk_alloc (blk_alloc (blk_new _ _) _) _) _, blk_alloc (blk_alloc (blk_new2 _ _ _) _) _, show w.grownBy _ none by repeat (first | with_reducible exact grownBy_refl _ _ | with_reducible assumption | with_reducible refine World.grownBy.gr_drew ?_ | with_reducible refine World.grownBy.gr_set ?_ (by simp) _ | with_reducible refine gr_alloc ?_ _), .inl ⟨rfl, rfl, (cell_of_row _ _ 0 _ _ _ (blk_new4 _ _ _ _ _)).trans rfl⟩⟩
  case round =>
    obtain ⟨B0, B1, HG, ⟨rfl, rfl, hc⟩ | ⟨rfl, rfl⟩⟩ := hrel
    · obtain ⟨a0, a1, a2, a3, f0, f1, f2, f3⟩ := cells4_of _ _ _ _ _ _ _ B0.out
      go_wp2_with fail
      go_roundg 0
      case measure => omega
      case rel => exact ⟨set_heap B0.out 3 _, set_other B1.out (by omega) _ _, HG.out.gr_set (by simp) _, .inr ⟨rfl, rfl⟩⟩
    · obtain ⟨a0, a1, a2, a3, f0, f1, f2, f3⟩ := cells4_of _ _ _ _ _ _ _ B0.out
      obtain ⟨b0, b1, b2, b3, e0, e1, e2, e3⟩ := cells4_of _ _ _ _ _ _ _ B1.out
      go_wp2_with fail
      have N := Lib.hid (set_heap (set_heap (set_heap (set_heap B1.out 0 (.int .i64 k)) 1 (.int .i64 n)) 2 (.string s)) 3 (.slice none 0 0))
      obtain ⟨q0, q1, q2, q3, _, _, _, _⟩ := cells4_of _ _ _ _ _ _ _ N.out
      refine bodyPost_ret (v := .agg #[.int .i64 k, .int .i64 n, .string s, .slice none 0 0]) (by simp [results, Tryd.results26, go_sem, q0, q1, q2, q3]) rfl ⟨rfl, ?_⟩
      exact (((HG.out.gr_set (by simp) _).gr_set (by simp) _).gr_set (by simp) _).gr_set (by simp) _

end Go.Proofs.YthbialahladjiaaDoor
