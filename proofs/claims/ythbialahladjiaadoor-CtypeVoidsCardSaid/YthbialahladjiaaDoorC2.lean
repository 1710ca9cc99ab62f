/- ctype: Scalar, toVoid, record; Fits where it doesn't look beyond a pointer's own parts; to. -/
import Derived.Test.YthbialahladjiaaDoorC1
namespace Go.Proofs.YthbialahladjiaaDoor
open Go.RowKit
def scaK (k : Int) : Bool := numK k || k == 5
set_option maxRecDepth 100000 in
set_option maxHeartbeats 2000000 in
theorem Scalar_any (k n : Int) (s : ByteArray) (v : Value) (w : World) (hv : VarsK w) :
    Calls Tryd.prog 18 #[tV k n s v] w fun e w' => e = .returned (.bool (scaK k)) ∧ w.grownBy w' none := by
  have HV := Lib.hid hv
  clear hv
  have HN := fun w' hw' => Number_any k n s v w' hw'
  unfold scaK
  generalize numK k = b at *
  unfold tV at *
  cases b with
  | true =>
    go_enter Tryd.func18, Tryd.ntmps18
    go_wp2_with fail
    refine (HN _ (HV.out.alloc _)).mono ?_
    rintro e w1 ⟨rfl, hg⟩
    have HG := Lib.hid hg
    clear hg
    go_wp2_with fail
    go_ret
    exact ⟨rfl, grownBy_trans (by repeat (first | with_reducible exact grownBy_refl _ _ | with_reducible assumption | with_reducible refine World.grownBy.gr_drew ?_ | with_reducible refine World.grownBy.gr_set ?_ (by simp) _ | with_reducible refine gr_alloc ?_ _)) HG.out⟩
  | false =>
    go_enter Tryd.func18, Tryd.ntmps18
    go_wp2_with fail
    refine (HN _ (HV.out.alloc _)).mono ?_
    rintro e w1 ⟨rfl, hg⟩
    have hb : w1.cell? ⟨w.heap.size, 0, none⟩ = some (.int .i64 k) := hg.cell (by simp) (by simp)
    have HG := Lib.hid hg
    clear hg
    go_wp2_with fail
    go_ret
    exact ⟨by simp, grownBy_trans (by repeat (first | with_reducible exact grownBy_refl _ _ | with_reducible assumption | with_reducible refine World.grownBy.gr_drew ?_ | with_reducible refine World.grownBy.gr_set ?_ (by simp) _ | with_reducible refine gr_alloc ?_ _)) HG.out⟩
set_option maxRecDepth 100000 in
set_option maxHeartbeats 2000000 in
theorem record_any (k n : Int) (s : ByteArray) (v : Value) (w : World) :
    Calls Tryd.prog 35 #[tV k n s v] w fun e w' => e = .returned (.bool (k == 7 || k == 8)) ∧ w.grownBy w' none := by
  unfold tV
  go_enter Tryd.func35, Tryd.ntmps35
  go_wp2_with fail
  · go_ret
    exact ⟨by simp [*], by repeat (first | with_reducible exact grownBy_refl _ _ | with_reducible assumption | with_reducible refine World.grownBy.gr_drew ?_ | with_reducible refine World.grownBy.gr_set ?_ (by simp) _ | with_reducible refine gr_alloc ?_ _)⟩
  · go_ret
    exact ⟨rfl, by repeat (first | with_reducible exact grownBy_refl _ _ | with_reducible assumption | with_reducible refine World.grownBy.gr_drew ?_ | with_reducible refine World.grownBy.gr_set ?_ (by simp) _ | with_reducible refine gr_alloc ?_ _)⟩
set_option maxRecDepth 100000 in
set_option maxHeartbeats 2000000 in
theorem toVoid_one (k n j : Int) (s : ByteArray) (g c : Nat) (w : World) (hc : w.cell? ⟨g, 0, none⟩ = some (.int .i64 j)) :
    Calls Tryd.prog 34 #[tV k n s (.slice (some ⟨g, 0, none⟩) 1 c)] w fun e w' => e = .returned (.bool (j == 1)) ∧ w.grownBy w' none := by
  unfold tV
  have hc' : (w.alloc (.cells #[.int .i64 k, .int .i64 n, .string s, .slice (some ⟨g, 0, none⟩) 1 c] 24)).cell? ⟨g, 0, none⟩ = some (.int .i64 j) := (gr_alloc (grownBy_refl w none) _).cell hc (by simp)
  clear hc
  go_enter Tryd.func34, Tryd.ntmps34
  go_wp2_with fail
  go_ret
  exact ⟨rfl, by repeat (first | with_reducible exact grownBy_refl _ _ | with_reducible assumption | with_reducible refine World.grownBy.gr_drew ?_ | with_reducible refine World.grownBy.gr_set ?_ (by simp) _ | with_reducible refine gr_alloc ?_ _)⟩
set_option maxRecDepth 100000 in
set_option maxHeartbeats 2000000 in
theorem Fits_num (k n : Int) (s : ByteArray) (v : Value) (k' n' : Int) (s' : ByteArray) (v' : Value) (z : Bool) (hk : numK k = true) (w : World) (hv : VarsK w) :
    Calls Tryd.prog 23 #[tV k n s v, tV k' n' s' v', .bool z] w fun e w' => e = .returned (.bool (numK k')) ∧ w.grownBy w' none := by
  have HV := Lib.hid hv
  clear hv
  have HN := fun w' hw' => Number_any k n s v w' hw'
  have HN' := fun w' hw' => Number_any k' n' s' v' w' hw'
  rw [hk] at HN
  generalize numK k' = b at *
  unfold tV at *
  clear hk
  go_enter Tryd.func23, Tryd.ntmps23
  go_wp2_with fail
  have HV0 := Lib.hid ((HV.out.alloc (.cells #[.int .i64 k, .int .i64 n, .string s, v] 24)).alloc (.cells #[.int .i64 k', .int .i64 n', .string s', v'] 24))
  refine (HN _ HV0.out).mono ?_
  rintro e w1 ⟨rfl, hg⟩
  have HV1 := Lib.hid (HV0.out.grown hg)
  have c0 : w1.cell? ⟨w.heap.size + 1, 0, none⟩ = some (.int .i64 k') := hg.cell (by simp) (by simp)
  have c1 : w1.cell? ⟨w.heap.size + 1, 1, none⟩ = some (.int .i64 n') := hg.cell (by simp) (by simp)
  have c2 : w1.cell? ⟨w.heap.size + 1, 2, none⟩ = some (.string s') := hg.cell (by simp) (by simp)
  have c3 : w1.cell? ⟨w.heap.size + 1, 3, none⟩ = some v' := hg.cell (by simp) (by simp)
  have HG := Lib.hid (grownBy_trans (show w.grownBy _ none by repeat (first | with_reducible exact grownBy_refl _ _ | with_reducible assumption | with_reducible refine World.grownBy.gr_drew ?_ | with_reducible refine World.grownBy.gr_set ?_ (by simp) _ | with_reducible refine gr_alloc ?_ _)) hg)
  clear hg
  go_wp2_with fail
  refine (HN' _ HV1.out).mono ?_
  rintro e w2 ⟨rfl, hg⟩
  have HG2 := Lib.hid hg
  clear hg
  go_wp2_with fail
  go_ret
  exact ⟨rfl, grownBy_trans HG.out HG2.out⟩
theorem cells4_of (w : World) (b : Nat) (v0 v1 v2 v3 : Value) (t : TypeId) (h : w.heap[b]? = some (.cells #[v0, v1, v2, v3] t (0, 0))) :
    w.cell? ⟨b, 0, none⟩ = some v0 ∧ w.cell? ⟨b, 1, none⟩ = some v1 ∧ w.cell? ⟨b, 2, none⟩ = some v2 ∧ w.cell? ⟨b, 3, none⟩ = some v3 ∧
    w.frozen? ⟨b, 0, none⟩ = false ∧ w.frozen? ⟨b, 1, none⟩ = false ∧ w.frozen? ⟨b, 2, none⟩ = false ∧ w.frozen? ⟨b, 3, none⟩ = false := by
  have hc := fun j => cell_of_row w b j _ _ _ h
  refine ⟨?_, ?_, ?_, ?_, ?_, ?_, ?_, ?_⟩
  · rw [hc]; rfl
  · rw [hc]; rfl
  · rw [hc]; rfl
  · rw [hc]; rfl
  all_goals simp [World.frozen?, h]
theorem blk_new (W : World) (o : Obj) : (W.alloc o).heap[W.heap.size]? = some o := by show (W.heap.push _)[W.heap.size]? = _; simp
theorem blk_new2 (W : World) (o o' : Obj) : ((W.alloc o).alloc o').heap[W.heap.size + 1]? = some o' := by
  have h := blk_new (W.alloc o) o'
  simpa using h
theorem blk_grown {W W' : World} {k : Nat} {o : Obj} (h : W.heap[k]? = some o) (g : W.grownBy W' none) : W'.heap[k]? = some o := by rw [g.block _ (lt_of_heap h) (by simp)]; exact h
set_option maxRecDepth 100000 in
set_option maxHeartbeats 2000000 in
theorem Fits_zero (n : Int) (s : ByteArray) (v : Value) (k' n' : Int) (s' : ByteArray) (v' : Value) (w : World) (hv : VarsK w) :
    Calls Tryd.prog 23 #[tV 5 n s v, tV k' n' s' v', .bool true] w fun e w' => e = .returned (.bool true) ∧ w.grownBy w' none := by
  have HV := Lib.hid hv
  clear hv
  have HN := fun w' hw' => Number_any 5 n s v w' hw'
  rw [show numK 5 = false from rfl] at HN
  unfold tV at *
  go_enter Tryd.func23, Tryd.ntmps23
  go_wp2_with fail
  have HV0 := Lib.hid ((HV.out.alloc (.cells #[.int .i64 5, .int .i64 n, .string s, v] 24)).alloc (.cells #[.int .i64 k', .int .i64 n', .string s', v'] 24))
  refine (HN _ HV0.out).mono ?_
  rintro e w1 ⟨rfl, hg⟩
  have c0 : w1.cell? ⟨w.heap.size, 0, none⟩ = some (.int .i64 5) := hg.cell (by simp) (by simp)
  have HG := Lib.hid (grownBy_trans (show w.grownBy _ none by repeat (first | with_reducible exact grownBy_refl _ _ | with_reducible assumption | with_reducible refine World.grownBy.gr_drew ?_ | with_reducible refine World.grownBy.gr_set ?_ (by simp) _ | with_reducible refine gr_alloc ?_ _)) hg)
  clear hg
  go_wp2_with fail
  go_ret
  exact ⟨rfl, HG.out⟩
set_option maxRecDepth 100000 in
set_option maxHeartbeats 2000000 in
theorem Fits_off (n : Int) (s : ByteArray) (v : Value) (k' n' : Int) (s' : ByteArray) (v' : Value) (hk : ¬ k' = 5) (w : World) (hv : VarsK w) :
    Calls Tryd.prog 23 #[tV 5 n s v, tV k' n' s' v', .bool false] w fun e w' => e = .returned (.bool false) ∧ w.grownBy w' none := by
  have HV := Lib.hid hv
  clear hv
  have hk5 : (k' == 5) = false := by simp [hk]
  have HN := fun w' hw' => Number_any 5 n s v w' hw'
  rw [show numK 5 = false from rfl] at HN
  have HR := fun w' => record_any 5 n s v w'
  rw [show ((5 : Int) == 7 || (5 : Int) == 8) = false from rfl] at HR
  unfold tV at *
  go_enter Tryd.func23, Tryd.ntmps23
  go_wp2_with fail
  have HV0 := Lib.hid ((HV.out.alloc (.cells #[.int .i64 5, .int .i64 n, .string s, v] 24)).alloc (.cells #[.int .i64 k', .int .i64 n', .string s', v'] 24))
  refine (HN _ HV0.out).mono ?_
  rintro e w1 ⟨rfl, hg⟩
  have c0 : w1.cell? ⟨w.heap.size, 0, none⟩ = some (.int .i64 5) := hg.cell (by simp) (by simp)
  have c1 : w1.cell? ⟨w.heap.size, 1, none⟩ = some (.int .i64 n) := hg.cell (by simp) (by simp)
  have c2 : w1.cell? ⟨w.heap.size, 2, none⟩ = some (.string s) := hg.cell (by simp) (by simp)
  have c3 : w1.cell? ⟨w.heap.size, 3, none⟩ = some v := hg.cell (by simp) (by simp)
  have c4 : w1.cell? ⟨w.heap.size + 1, 0, none⟩ = some (.int .i64 k') := hg.cell (by simp) (by simp)
  have HG := Lib.hid (grownBy_trans (show w.grownBy _ none by repeat (first | with_reducible exact grownBy_refl _ _ | with_reducible assumption | with_reducible refine World.grownBy.gr_drew ?_ | with_reducible refine World.grownBy.gr_set ?_ (by simp) _ | with_reducible refine gr_alloc ?_ _)) hg)
  clear hg
  go_wp2_with fail
  refine (HR _).mono ?_
  rintro e w2 ⟨rfl, hg⟩
  have HG2 := Lib.hid (grownBy_trans HG.out hg)
  clear hg
  go_wp2_with fail
  go_ret
  exact ⟨rfl, HG2.out⟩
set_option maxRecDepth 100000 in
set_option maxHeartbeats 2000000 in
/-- One of two pointers is one to nothing known. -/
theorem Fits_void (n : Int) (s : ByteArray) (g c : Nat) (n' : Int) (s' : ByteArray) (g' c' : Nat) (j j' : Int) (hj : j = 1 ∨ j' = 1) (w : World) (hv : VarsK w)
    (hc : w.cell? ⟨g, 0, none⟩ = some (.int .i64 j)) (hc' : w.cell? ⟨g', 0, none⟩ = some (.int .i64 j')) :
    Calls Tryd.prog 23 #[tV 5 n s (.slice (some ⟨g, 0, none⟩) 1 c), tV 5 n' s' (.slice (some ⟨g', 0, none⟩) 1 c'), .bool false] w fun e w' => e = .returned (.bool true) ∧ w.grownBy w' none := by
  have HV := Lib.hid hv
  have HC := Lib.hid hc
  have HC' := Lib.hid hc'
  clear hv hc hc'
  have HN := fun w' hw' => Number_any 5 n s (.slice (some ⟨g, 0, none⟩) 1 c) w' hw'
  rw [show numK 5 = false from rfl] at HN
  have HT := Lib.hid (fun w' h1 => toVoid_one 5 n j s g c w' h1)
  have HT' := Lib.hid (fun w' h1 => toVoid_one 5 n' j' s' g' c' w' h1)
  have hb : (j == 1) = true ∨ (j == 1) = false ∧ (j' == 1) = true := by
    by_cases h : j = 1
    · exact .inl (by simp [h])
    · exact .inr ⟨by simp [h], by rcases hj with h' | h'; exact absurd h' h; simp [h']⟩
  generalize (j == 1) = b at *
  generalize (j' == 1) = b' at *
  unfold tV at *
  go_enter Tryd.func23, Tryd.ntmps23
  go_wp2_with fail
  have HV0 := Lib.hid ((HV.out.alloc (.cells #[.int .i64 5, .int .i64 n, .string s, .slice (some ⟨g, 0, none⟩) 1 c] 24)).alloc (.cells #[.int .i64 5, .int .i64 n', .string s', .slice (some ⟨g', 0, none⟩) 1 c'] 24))
  refine (HN _ HV0.out).mono ?_
  rintro e w1 ⟨rfl, hg⟩
  have c0 : w1.cell? ⟨w.heap.size, 0, none⟩ = some (.int .i64 5) := hg.cell (by simp) (by simp)
  have c1 : w1.cell? ⟨w.heap.size, 1, none⟩ = some (.int .i64 n) := hg.cell (by simp) (by simp)
  have c2 : w1.cell? ⟨w.heap.size, 2, none⟩ = some (.string s) := hg.cell (by simp) (by simp)
  have c3 : w1.cell? ⟨w.heap.size, 3, none⟩ = some (.slice (some ⟨g, 0, none⟩) 1 c) := hg.cell (by simp) (by simp)
  have B4 := Lib.hid (blk_grown (k := w.heap.size + 1) (o := .cells #[.int .i64 5, .int .i64 n', .string s', .slice (some ⟨g', 0, none⟩) 1 c'] 24) (blk_new2 _ _ _) hg)
  have c4 : w1.cell? ⟨w.heap.size + 1, 0, none⟩ = some (.int .i64 5) := hg.cell (by simp) (by simp)
  have HG := Lib.hid (grownBy_trans (show w.grownBy _ none by repeat (first | with_reducible exact grownBy_refl _ _ | with_reducible assumption | with_reducible refine World.grownBy.gr_drew ?_ | with_reducible refine World.grownBy.gr_set ?_ (by simp) _ | with_reducible refine gr_alloc ?_ _)) hg)
  clear hg
  rcases hb with rfl | ⟨rfl, rfl⟩
  · go_wp2_with fail
    refine (HT.out w1 (HG.out.cell HC.out (by simp))).mono ?_
    rintro e w2 ⟨rfl, hg⟩
    have HG2 := Lib.hid (grownBy_trans HG.out hg)
    clear hg
    go_wp2_with fail
    go_ret
    exact ⟨rfl, HG2.out⟩
  · go_wp2_with fail
    refine (HT.out w1 (HG.out.cell HC.out (by simp))).mono ?_
    rintro e w2 ⟨rfl, hg⟩
    have HG2 := Lib.hid (grownBy_trans HG.out hg)
    obtain ⟨d0, d1, d2, d3, _, _, _, _⟩ := cells4_of w2 _ _ _ _ _ _ (blk_grown B4.out hg)
    clear hg
    go_wp2_with fail
    refine (HT'.out w2 (HG2.out.cell HC'.out (by simp))).mono ?_
    rintro e w3 ⟨rfl, hg⟩
    have HG3 := Lib.hid (grownBy_trans HG2.out hg)
    clear hg
    go_wp2_with fail
    go_ret
    exact ⟨rfl, HG3.out⟩

end Go.Proofs.YthbialahladjiaaDoor
