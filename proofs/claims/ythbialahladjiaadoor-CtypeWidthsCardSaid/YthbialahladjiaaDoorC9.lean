/- CtypeWidths' walk. -/
import Derived.Test.YthbialahladjiaaDoorC8
import Derived.Deep.RegionHeld3
import Derived.Deep.DrawnRows
namespace Go.Proofs.YthbialahladjiaaDoor
open Go.RowKit
attribute [local go_sem ↓] Go.wp_at_zero Go.wp_at_succ
/-- The two arguments in blocks of the call's own. -/
structure Box2 (w : World) (k n : Int) (s : ByteArray) (v : Value) (k' n' : Int) (s' : ByteArray) (v' : Value) (W : World) : Prop where
  a : W.heap[w.heap.size]? = some (.cells #[.int .i64 k, .int .i64 n, .string s, v] 24 (0, 0))
  b : W.heap[w.heap.size + 1]? = some (.cells #[.int .i64 k', .int .i64 n', .string s', v'] 24 (0, 0))
  v : VarsK W
  g : w.grownBy W none
section
variable {w W W' : World} {k n k' n' : Int} {s s' : ByteArray} {v v' : Value}
theorem Box2.grown (h : Box2 w k n s v k' n' s' v' W) (g : W.grownBy W' none) : Box2 w k n s v k' n' s' v' W' :=
  ⟨blk_grown h.a g, blk_grown h.b g, h.v.grown g, grownBy_trans h.g g⟩
theorem Box2.drew (h : Box2 w k n s v k' n' s' v' W) : Box2 w k n s v k' n' s' v' W.drew := h.grown (grownBy_refl W none).gr_drew
def Reads2 (w : World) (k n : Int) (s : ByteArray) (v : Value) (k' n' : Int) (s' : ByteArray) (v' : Value) (W : World) : Prop :=
  W.cell? ⟨w.heap.size, 0, none⟩ = some (.int .i64 k) ∧ W.cell? ⟨w.heap.size, 1, none⟩ = some (.int .i64 n) ∧ W.cell? ⟨w.heap.size, 2, none⟩ = some (.string s) ∧ W.cell? ⟨w.heap.size, 3, none⟩ = some v ∧
  W.cell? ⟨w.heap.size + 1, 0, none⟩ = some (.int .i64 k') ∧ W.cell? ⟨w.heap.size + 1, 1, none⟩ = some (.int .i64 n') ∧ W.cell? ⟨w.heap.size + 1, 2, none⟩ = some (.string s') ∧ W.cell? ⟨w.heap.size + 1, 3, none⟩ = some v' ∧ Box2 w k n s v k' n' s' v' W
theorem Box2.reads (h : Box2 w k n s v k' n' s' v' W) :
  W.cell? ⟨w.heap.size, 0, none⟩ = some (.int .i64 k) ∧ W.cell? ⟨w.heap.size, 1, none⟩ = some (.int .i64 n) ∧ W.cell? ⟨w.heap.size, 2, none⟩ = some (.string s) ∧ W.cell? ⟨w.heap.size, 3, none⟩ = some v ∧
  W.cell? ⟨w.heap.size + 1, 0, none⟩ = some (.int .i64 k') ∧ W.cell? ⟨w.heap.size + 1, 1, none⟩ = some (.int .i64 n') ∧ W.cell? ⟨w.heap.size + 1, 2, none⟩ = some (.string s') ∧ W.cell? ⟨w.heap.size + 1, 3, none⟩ = some v' ∧ Box2 w k n s v k' n' s' v' W := by
  obtain ⟨a0, a1, a2, a3, _⟩ := cells4_of _ _ _ _ _ _ _ h.a
  obtain ⟨b0, b1, b2, b3, _⟩ := cells4_of _ _ _ _ _ _ _ h.b
  exact ⟨a0, a1, a2, a3, b0, b1, b2, b3, h⟩
theorem Box2.reads2 (h : Box2 w k n s v k' n' s' v' W) (g : W.grownBy W' none) :
  W'.cell? ⟨w.heap.size, 0, none⟩ = some (.int .i64 k) ∧ W'.cell? ⟨w.heap.size, 1, none⟩ = some (.int .i64 n) ∧ W'.cell? ⟨w.heap.size, 2, none⟩ = some (.string s) ∧ W'.cell? ⟨w.heap.size, 3, none⟩ = some v ∧
  W'.cell? ⟨w.heap.size + 1, 0, none⟩ = some (.int .i64 k') ∧ W'.cell? ⟨w.heap.size + 1, 1, none⟩ = some (.int .i64 n') ∧ W'.cell? ⟨w.heap.size + 1, 2, none⟩ = some (.string s') ∧ W'.cell? ⟨w.heap.size + 1, 3, none⟩ = some v' ∧ Box2 w k n s v k' n' s' v' W' := (h.grown g).reads
end
theorem width_sca (k : Int) : decide (0 < widthK k) = scaK k := by
  unfold widthK scaK numK
  by_cases h2 : k = 2
  · subst h2; rfl
  · by_cases h3 : k = 3
    · subst h3; rfl
    · by_cases h4 : k = 4
      · subst h4; rfl
      · by_cases h5 : k = 5
        · subst h5; rfl
        · rw [if_neg h2, if_neg h3, if_neg (by omega)]; simp [h2, h3, h4, h5]
set_option maxRecDepth 100000 in
set_option maxHeartbeats 4000000 in
theorem widths_num2 (k n k' n' : Int) (s s' : ByteArray) (v v' : Value) (hN : numK k = true) (hM : numK k' = true) (hB : scaK k = true) (h5 : (k != 5) = true) (w : World) (hv : VarsK w) :
    Calls Tryd.prog 7 #[tV k n s v, tV k' n' s' v'] w fun e w' => e = .returned (.bool true) ∧ w.grownBy w' none := by
  have HV := Lib.hid hv
  have HW := fun W (h : Box2 w k n s v k' n' s' v' W) => Width_any k n s v W h.v
  have HS := fun W (h : Box2 w k n s v k' n' s' v' W) => Scalar_any k n s v W h.v
  have HN := fun W (h : Box2 w k n s v k' n' s' v' W) => Number_any k n s v W h.v
  have HM := fun W (h : Box2 w k n s v k' n' s' v' W) => Number_any k' n' s' v' W h.v
  have HSh := Lib.hid shown_any
  have hws := width_sca k
  generalize widthK k = wd at *
  rw [hB] at HS hws
  rw [hN] at HN
  have HF := fun W (h : Box2 w k n s v k' n' s' v' W) => Fits_num k n s v k' n' s' v' false hN W h.v
  rw [hM] at HM HF
  unfold tV at *
  clear hv
  go_enter Tryd.func7, Tryd.ntmps7
  go_wp2_with fail
  refine (HSh.out _ ((HV.out.alloc _).alloc _)).mono ?_
  rintro e w1 ⟨rfl, hg⟩
  have X1 : Box2 w k n s v k' n' s' v' w1 := Box2.grown ⟨blk_alloc (blk_new _ _) _, blk_new2 _ _ _, (HV.out.alloc _).alloc _, by repeat (first | with_reducible exact grownBy_refl _ _ | with_reducible assumption | with_reducible refine World.grownBy.gr_drew ?_ | with_reducible refine World.grownBy.gr_set ?_ (by simp) _ | with_reducible refine gr_alloc ?_ _)⟩ hg
  clear hg
  obtain ⟨a0, a1, a2, a3, b0, b1, b2, b3, _⟩ := X1.reads
  have X1d := X1.drew
  go_wp2_with fail
  go_region_held3 (fun W => W.cell? ⟨w.heap.size, 0, none⟩ = some (.int .i64 k) ∧ W.cell? ⟨w.heap.size, 1, none⟩ = some (.int .i64 n) ∧ W.cell? ⟨w.heap.size, 2, none⟩ = some (.string s) ∧ W.cell? ⟨w.heap.size, 3, none⟩ = some v ∧ W.cell? ⟨w.heap.size + 1, 0, none⟩ = some (.int .i64 k') ∧ W.cell? ⟨w.heap.size + 1, 1, none⟩ = some (.int .i64 n') ∧ W.cell? ⟨w.heap.size + 1, 2, none⟩ = some (.string s') ∧ W.cell? ⟨w.heap.size + 1, 3, none⟩ = some v' ∧ Box2 w k n s v k' n' s' v' W)
    (exact Box2.reads (by assumption))
    (first
      | (go_at_call 20; refine (HW _ (by assumption)).mono ?_; rintro e w' ⟨rfl, hg⟩; have hbx := Box2.grown (by assumption) hg; clear hg)
      | (go_at_call 16; refine (HN _ (by assumption)).mono ?_; rintro e w' ⟨rfl, hg⟩; have hbx := Box2.grown (by assumption) hg; clear hg)
      | (go_at_call 18; refine (HS _ (by assumption)).mono ?_; rintro e w' ⟨rfl, hg⟩; have hbx := Box2.grown (by assumption) hg; clear hg))
  have X2 : Box2 w k n s v k' n' s' v' w' := by assumption
  clear a0 a1 a2 a3 b0 b1 b2 b3
  obtain ⟨a0, a1, a2, a3, b0, b1, b2, b3, _⟩ := X2.reads
  go_wp2_with fail
  refine (HN _ X2).mono ?_
  rintro e y3 ⟨rfl, hg⟩
  have X3 := X2.grown hg
  clear hg a0 a1 a2 a3 b0 b1 b2 b3
  obtain ⟨a0, a1, a2, a3, b0, b1, b2, b3, _⟩ := X3.reads
  go_wp2_with fail
  refine (HM _ X3).mono ?_
  rintro e y4 ⟨rfl, hg⟩
  have X4 := X3.grown hg
  clear hg a0 a1 a2 a3 b0 b1 b2 b3
  obtain ⟨a0, a1, a2, a3, b0, b1, b2, b3, _⟩ := X4.reads
  go_wp2_with fail
  refine (HF _ X4).mono ?_
  rintro e y5 ⟨rfl, hg⟩
  have X5 := X4.grown hg
  clear hg a0 a1 a2 a3 b0 b1 b2 b3
  obtain ⟨a0, a1, a2, a3, b0, b1, b2, b3, _⟩ := X5.reads
  go_wp2_with fail
  go_ret
  exact ⟨rfl, X5.g⟩
set_option maxRecDepth 100000 in
set_option maxHeartbeats 4000000 in
theorem widths_num1 (k n k' n' : Int) (s s' : ByteArray) (v v' : Value) (hN : numK k = true) (hM : numK k' = false) (hB : scaK k = true) (h5 : (k != 5) = true) (w : World) (hv : VarsK w) :
    Calls Tryd.prog 7 #[tV k n s v, tV k' n' s' v'] w fun e w' => e = .returned (.bool true) ∧ w.grownBy w' none := by
  have HV := Lib.hid hv
  have HW := fun W (h : Box2 w k n s v k' n' s' v' W) => Width_any k n s v W h.v
  have HS := fun W (h : Box2 w k n s v k' n' s' v' W) => Scalar_any k n s v W h.v
  have HN := fun W (h : Box2 w k n s v k' n' s' v' W) => Number_any k n s v W h.v
  have HM := fun W (h : Box2 w k n s v k' n' s' v' W) => Number_any k' n' s' v' W h.v
  have HSh := Lib.hid shown_any
  have hws := width_sca k
  generalize widthK k = wd at *
  rw [hB] at HS hws
  rw [hN] at HN
  rw [hM] at HM
  unfold tV at *
  clear hv
  go_enter Tryd.func7, Tryd.ntmps7
  go_wp2_with fail
  refine (HSh.out _ ((HV.out.alloc _).alloc _)).mono ?_
  rintro e w1 ⟨rfl, hg⟩
  have X1 : Box2 w k n s v k' n' s' v' w1 := Box2.grown ⟨blk_alloc (blk_new _ _) _, blk_new2 _ _ _, (HV.out.alloc _).alloc _, by repeat (first | with_reducible exact grownBy_refl _ _ | with_reducible assumption | with_reducible refine World.grownBy.gr_drew ?_ | with_reducible refine World.grownBy.gr_set ?_ (by simp) _ | with_reducible refine gr_alloc ?_ _)⟩ hg
  clear hg
  obtain ⟨a0, a1, a2, a3, b0, b1, b2, b3, _⟩ := X1.reads
  have X1d := X1.drew
  go_wp2_with fail
  go_region_held3 (fun W => W.cell? ⟨w.heap.size, 0, none⟩ = some (.int .i64 k) ∧ W.cell? ⟨w.heap.size, 1, none⟩ = some (.int .i64 n) ∧ W.cell? ⟨w.heap.size, 2, none⟩ = some (.string s) ∧ W.cell? ⟨w.heap.size, 3, none⟩ = some v ∧ W.cell? ⟨w.heap.size + 1, 0, none⟩ = some (.int .i64 k') ∧ W.cell? ⟨w.heap.size + 1, 1, none⟩ = some (.int .i64 n') ∧ W.cell? ⟨w.heap.size + 1, 2, none⟩ = some (.string s') ∧ W.cell? ⟨w.heap.size + 1, 3, none⟩ = some v' ∧ Box2 w k n s v k' n' s' v' W)
    (exact Box2.reads (by assumption))
    (first
      | (go_at_call 20; refine (HW _ (by assumption)).mono ?_; rintro e w' ⟨rfl, hg⟩; have hbx := Box2.grown (by assumption) hg; clear hg)
      | (go_at_call 16; refine (HN _ (by assumption)).mono ?_; rintro e w' ⟨rfl, hg⟩; have hbx := Box2.grown (by assumption) hg; clear hg)
      | (go_at_call 18; refine (HS _ (by assumption)).mono ?_; rintro e w' ⟨rfl, hg⟩; have hbx := Box2.grown (by assumption) hg; clear hg))
  have X2 : Box2 w k n s v k' n' s' v' w' := by assumption
  clear a0 a1 a2 a3 b0 b1 b2 b3
  obtain ⟨a0, a1, a2, a3, b0, b1, b2, b3, _⟩ := X2.reads
  go_wp2_with fail
  refine (HN _ X2).mono ?_
  rintro e y3 ⟨rfl, hg⟩
  have X3 := X2.grown hg
  clear hg a0 a1 a2 a3 b0 b1 b2 b3
  obtain ⟨a0, a1, a2, a3, b0, b1, b2, b3, _⟩ := X3.reads
  go_wp2_with fail
  refine (HM _ X3).mono ?_
  rintro e y4 ⟨rfl, hg⟩
  have X4 := X3.grown hg
  clear hg a0 a1 a2 a3 b0 b1 b2 b3
  obtain ⟨a0, a1, a2, a3, b0, b1, b2, b3, _⟩ := X4.reads
  go_wp2_with fail
  go_ret
  exact ⟨rfl, X4.g⟩
set_option maxRecDepth 100000 in
set_option maxHeartbeats 4000000 in
theorem widths_off (k n k' n' : Int) (s s' : ByteArray) (v v' : Value) (hN : numK k = false) (hB : scaK k = false) (h5 : (k != 5) = true) (w : World) (hv : VarsK w) :
    Calls Tryd.prog 7 #[tV k n s v, tV k' n' s' v'] w fun e w' => e = .returned (.bool true) ∧ w.grownBy w' none := by
  have HV := Lib.hid hv
  have HW := fun W (h : Box2 w k n s v k' n' s' v' W) => Width_any k n s v W h.v
  have HS := fun W (h : Box2 w k n s v k' n' s' v' W) => Scalar_any k n s v W h.v
  have HN := fun W (h : Box2 w k n s v k' n' s' v' W) => Number_any k n s v W h.v
  have HSh := Lib.hid shown_any
  have hws := width_sca k
  generalize widthK k = wd at *
  rw [hB] at HS hws
  rw [hN] at HN
  unfold tV at *
  clear hv
  go_enter Tryd.func7, Tryd.ntmps7
  go_wp2_with fail
  refine (HSh.out _ ((HV.out.alloc _).alloc _)).mono ?_
  rintro e w1 ⟨rfl, hg⟩
  have X1 : Box2 w k n s v k' n' s' v' w1 := Box2.grown ⟨blk_alloc (blk_new _ _) _, blk_new2 _ _ _, (HV.out.alloc _).alloc _, by repeat (first | with_reducible exact grownBy_refl _ _ | with_reducible assumption | with_reducible refine World.grownBy.gr_drew ?_ | with_reducible refine World.grownBy.gr_set ?_ (by simp) _ | with_reducible refine gr_alloc ?_ _)⟩ hg
  clear hg
  obtain ⟨a0, a1, a2, a3, b0, b1, b2, b3, _⟩ := X1.reads
  have X1d := X1.drew
  go_wp2_with fail
  go_region_with
    (first
      | (go_at_call 20; refine (HW _ (by assumption)).mono ?_; rintro e w' ⟨rfl, hg⟩; have hbx := Box2.grown (by assumption) hg; clear hg; obtain ⟨a0, a1, a2, a3, b0, b1, b2, b3, _⟩ := hbx.reads)
      | (go_at_call 16; refine (HN _ (by assumption)).mono ?_; rintro e w' ⟨rfl, hg⟩; have hbx := Box2.grown (by assumption) hg; clear hg; obtain ⟨a0, a1, a2, a3, b0, b1, b2, b3, _⟩ := hbx.reads)
      | (go_at_call 18; refine (HS _ (by assumption)).mono ?_; rintro e w' ⟨rfl, hg⟩; have hbx := Box2.grown (by assumption) hg; clear hg; obtain ⟨a0, a1, a2, a3, b0, b1, b2, b3, _⟩ := hbx.reads))
  all_goals
    go_wp2_with fail
    refine (HN _ (by assumption)).mono ?_
    rintro e y3 ⟨rfl, hg⟩
    have X3 := Box2.grown (by assumption) hg
    clear hg a0 a1 a2 a3 b0 b1 b2 b3
    obtain ⟨a0, a1, a2, a3, b0, b1, b2, b3, _⟩ := X3.reads
    go_wp2_with fail
    go_ret
    exact ⟨rfl, X3.g⟩
set_option maxRecDepth 100000 in
set_option maxHeartbeats 4000000 in
theorem widths_ptr (k n k' n' : Int) (s s' : ByteArray) (v v' : Value) (hN : numK k = false) (hB : scaK k = true) (h5 : k = 5) (w : World) (hv : VarsK w) :
    Calls Tryd.prog 7 #[tV k n s v, tV k' n' s' v'] w fun e w' => e = .returned (.bool true) ∧ w.grownBy w' none := by
  have HV := Lib.hid hv
  have HW := fun W (h : Box2 w k n s v k' n' s' v' W) => Width_any k n s v W h.v
  have HS := fun W (h : Box2 w k n s v k' n' s' v' W) => Scalar_any k n s v W h.v
  have HN := fun W (h : Box2 w k n s v k' n' s' v' W) => Number_any k n s v W h.v
  have HSh := Lib.hid shown_any
  have hws := width_sca k
  have HF := fun W (h : Box2 w k n s v k' n' s' v' W) => Fits_zero n s v k' n' s' v' W h.v
  have h5b : (k != 5) = false := by simp [h5]
  rw [← h5] at HF
  clear h5
  generalize widthK k = wd at *
  rw [hB] at HS hws
  rw [hN] at HN
  unfold tV at *
  clear hv
  go_enter Tryd.func7, Tryd.ntmps7
  go_wp2_with fail
  refine (HSh.out _ ((HV.out.alloc _).alloc _)).mono ?_
  rintro e w1 ⟨rfl, hg⟩
  have X1 : Box2 w k n s v k' n' s' v' w1 := Box2.grown ⟨blk_alloc (blk_new _ _) _, blk_new2 _ _ _, (HV.out.alloc _).alloc _, by repeat (first | with_reducible exact grownBy_refl _ _ | with_reducible assumption | with_reducible refine World.grownBy.gr_drew ?_ | with_reducible refine World.grownBy.gr_set ?_ (by simp) _ | with_reducible refine gr_alloc ?_ _)⟩ hg
  clear hg
  obtain ⟨a0, a1, a2, a3, b0, b1, b2, b3, _⟩ := X1.reads
  have X1d := X1.drew
  go_wp2_with fail
  go_region_with
    (first
      | (go_at_call 20; refine (HW _ (by assumption)).mono ?_; rintro e w' ⟨rfl, hg⟩; have hbx := Box2.grown (by assumption) hg; clear hg; obtain ⟨a0, a1, a2, a3, b0, b1, b2, b3, _⟩ := hbx.reads)
      | (go_at_call 16; refine (HN _ (by assumption)).mono ?_; rintro e w' ⟨rfl, hg⟩; have hbx := Box2.grown (by assumption) hg; clear hg; obtain ⟨a0, a1, a2, a3, b0, b1, b2, b3, _⟩ := hbx.reads)
      | (go_at_call 18; refine (HS _ (by assumption)).mono ?_; rintro e w' ⟨rfl, hg⟩; have hbx := Box2.grown (by assumption) hg; clear hg; obtain ⟨a0, a1, a2, a3, b0, b1, b2, b3, _⟩ := hbx.reads))
  all_goals
    go_wp2_with fail
    refine (HN _ (by assumption)).mono ?_
    rintro e y3 ⟨rfl, hg⟩
    have X3 := Box2.grown (by assumption) hg
    clear hg a0 a1 a2 a3 b0 b1 b2 b3
    obtain ⟨a0, a1, a2, a3, b0, b1, b2, b3, _⟩ := X3.reads
    go_wp2_with fail
    refine (HF _ X3).mono ?_
    rintro e y4 ⟨rfl, hg⟩
    have X4 := X3.grown hg
    clear hg a0 a1 a2 a3 b0 b1 b2 b3
    obtain ⟨a0, a1, a2, a3, b0, b1, b2, b3, _⟩ := X4.reads
    go_wp2_with fail
    go_ret
    exact ⟨rfl, X4.g⟩
theorem widths_walk (k n k' n' : Int) (s s' : ByteArray) (v v' : Value) (w : World) (hv : VarsK w) :
    Calls Tryd.prog 7 #[tV k n s v, tV k' n' s' v'] w fun e w' => e = .returned (.bool true) ∧ w.grownBy w' none := by
  by_cases h5 : k = 5
  · exact widths_ptr k n k' n' s s' v v' (by subst h5; rfl) (by subst h5; rfl) h5 w hv
  · cases hN : numK k with
    | true =>
      cases hM : numK k' with
      | true => exact widths_num2 k n k' n' s s' v v' hN hM (by unfold scaK; simp [hN]) (by simpa using h5) w hv
      | false => exact widths_num1 k n k' n' s s' v v' hN hM (by unfold scaK; simp [hN]) (by simpa using h5) w hv
    | false => exact widths_off k n k' n' s s' v v' hN (by unfold scaK; simp [hN, h5]) (by simpa using h5) w hv

end Go.Proofs.YthbialahladjiaaDoor
