/- ctype: Decay of an array of a type without parts; what Same looks at, one pair. -/
import Derived.Test.YthbialahladjiaaDoorC3
import Derived.Deep.QuietTactic
import Derived.BigQuiet
namespace Go.Proofs.YthbialahladjiaaDoor
open Go.RowKit
theorem gr_drewN {a b : World} {r : Option Nat} (h : a.grownBy b r) (n : Nat) : a.grownBy (b.drewN n) r := ⟨h.os, h.tape, h.output, h.size, h.block⟩
theorem blk_new_at {W : World} {k : Nat} (h : W.heap.size = k) (o : Obj) : (W.alloc o).heap[k]? = some o := by rw [← h]; exact blk_new W o
set_option maxRecDepth 100000 in
set_option maxHeartbeats 2000000 in
theorem Decay_arr (n k' n' : Int) (s s' : ByteArray) (g c : Nat) (w : World) (hb : w.heap[g]? = some (.cells #[.int .i64 k', .int .i64 n', .string s', .slice none 0 0] 24 (0, 0))) :
    Calls Tryd.prog 12 #[tV 6 n s (.slice (some ⟨g, 0, none⟩) 1 c)] w fun e w' => ∃ g2, e = .returned (tV 5 0 ⟨#[]⟩ (.slice (some ⟨g2, 0, none⟩) 1 1)) ∧ w'.heap[g2]? = some (.cells #[.int .i64 k', .int .i64 n', .string s', .slice none 0 0] 24 (0, 0)) ∧ w.grownBy w' none := by
  have HF := fun w' => fresh_leaf k' n' s' w'
  unfold tV at *
  have hgl := lt_of_heap hb
  obtain ⟨a0, a1, a2, a3, _, _, _, _⟩ := cells4_of _ _ _ _ _ _ _ hb
  go_enter Tryd.func12, Tryd.ntmps12
  go_wp2_with fail
  refine (HF _).mono ?_
  rintro e w1 ⟨rfl, hg⟩
  have N := Lib.hid (blk_grown (blk_new2 w (.cells #[.int .i64 6, .int .i64 n, .string s, .slice (some ⟨g, 0, none⟩) 1 c] 24) (.cells #[.int .i64 0, .int .i64 0, .string ⟨#[]⟩, .slice none 0 0] 24)) hg)
  obtain ⟨b0, b1, b2, b3, e0, e1, e2, e3⟩ := cells4_of _ _ _ _ _ _ _ N.out
  have HG := Lib.hid (grownBy_trans (show w.grownBy _ none by repeat (first | with_reducible exact grownBy_refl _ _ | with_reducible assumption | with_reducible refine World.grownBy.gr_drew ?_ | with_reducible refine World.grownBy.gr_set ?_ (by simp) _ | with_reducible refine gr_alloc ?_ _)) hg)
  have hz := hg.size
  simp at hz
  have hz2 : w.heap.size + 1 < w1.heap.size := by omega
  clear hg
  go_wp2_with fail
  have M := Lib.hid (blk_alloc (set_heap (set_heap (set_heap (set_heap N.out 0 (.int .i64 5)) 1 (.int .i64 0)) 2 (.string ⟨#[]⟩)) 3 (.slice (some ⟨w1.heap.size, 0, none⟩) 1 1)) (.cells #[.int .i64 k', .int .i64 n', .string s', .slice none 0 0] 24))
  obtain ⟨q0, q1, q2, q3, _, _, _, _⟩ := cells4_of _ _ _ _ _ _ _ M.out
  refine bodyPost_ret (v := .agg #[.int .i64 5, .int .i64 0, .string ⟨#[]⟩, .slice (some ⟨w1.heap.size, 0, none⟩) 1 1]) (by simp [results, Tryd.results12, go_sem, q0, q1, q2, q3]) rfl ⟨w1.heap.size, rfl, ?_, ?_⟩
  · exact blk_new_at (by simp [World.setCell]) _
  · exact gr_alloc ((((HG.out.gr_set (by simp) _).gr_set (by simp) _).gr_set (by simp) _).gr_set (by simp) _) _
set_option maxRecDepth 100000 in
set_option maxHeartbeats 2000000 in
theorem sameKid_diff (g h : Nat) (k n k' n' : Int) (s s' : ByteArray) (v v' : Value) (hk : ¬ k = k') (w : World) (hb : w.heap[g]? = some (.cells #[.int .i64 k, .int .i64 n, .string s, v] 24 (0, 0))) (hb' : w.heap[h]? = some (.cells #[.int .i64 k', .int .i64 n', .string s', v'] 24 (0, 0))) :
    Calls Tryd.prog 33 #[.agg #[.pointer (some ⟨g, 0, none⟩), .pointer (some ⟨h, 0, none⟩)]] w fun e w' => e = .returned (.tuple #[.slice none 0 0, .bool false]) ∧ w.grownBy w' none := by
  have hk1 : (k != k') = true := by simp [hk]
  have hgl := lt_of_heap hb
  have hgl' := lt_of_heap hb'
  obtain ⟨a0, a1, a2, a3, _, _, _, _⟩ := cells4_of _ _ _ _ _ _ _ hb
  obtain ⟨b0, b1, b2, b3, _, _, _, _⟩ := cells4_of _ _ _ _ _ _ _ hb'
  clear hk
  go_enter Tryd.func33, Tryd.ntmps33
  go_wp2_with fail
  go_quiet (fail)
  go_wp2_with fail
  refine bodyPost_ret (v := .tuple #[.slice none 0 0, .bool false]) (by simp [results, Tryd.results33, go_sem]) rfl ⟨rfl, ?_⟩
  exact gr_drewN (by repeat (first | with_reducible exact grownBy_refl _ _ | with_reducible assumption | with_reducible refine World.grownBy.gr_drew ?_ | with_reducible refine World.grownBy.gr_set ?_ (by simp) _ | with_reducible refine gr_alloc ?_ _)) _

end Go.Proofs.YthbialahladjiaaDoor
