/- ctype: Same and Fits at two pointers to different kinds; the statements' examples. -/
import Derived.Test.YthbialahladjiaaDoorC7
namespace Go.Proofs.YthbialahladjiaaDoor
open Go.RowKit
set_option maxRecDepth 100000 in
set_option maxHeartbeats 4000000 in
theorem Same_ptrs (g' h' c c' : Nat) (k k' n m m' : Int) (s r r' : ByteArray) (hk : ¬ k = k') (w : World) (hd : w.heap[g']? = some (.cells #[.int .i64 k, .int .i64 m, .string r, .slice none 0 0] 24 (0, 0))) (hd' : w.heap[h']? = some (.cells #[.int .i64 k', .int .i64 m', .string r', .slice none 0 0] 24 (0, 0))) :
    Calls Tryd.prog 22 #[tV 5 n s (.slice (some ⟨g', 0, none⟩) 1 c), tV 5 n s (.slice (some ⟨h', 0, none⟩) 1 c')] w fun e w' => e = .returned (.bool false) ∧ w.grownBy w' none := by
  have HD := Lib.hid hd
  have HD' := Lib.hid hd'
  have hgl := lt_of_heap hd
  have HE := Lib.hid (fun w' a b x y => every_ptrs w.heap.size (w.heap.size + 1) g' h' c c' k k' n m m' s r r' hk (by omega) w' a b x y)
  clear hd hd' hk
  unfold tV prV at *
  go_enter Tryd.func22, Tryd.ntmps22
  go_wp2_with fail
  refine (HE.out _ (blk_alloc (blk_new _ _) _) (blk_new2 _ _ _) (blk_alloc (blk_alloc HD.out _) _) (blk_alloc (blk_alloc HD'.out _) _)).mono ?_
  rintro e w1 ⟨rfl, hg⟩
  have HG := Lib.hid (grownBy_trans (show w.grownBy _ none by repeat (first | with_reducible exact grownBy_refl _ _ | with_reducible assumption | with_reducible refine World.grownBy.gr_drew ?_ | with_reducible refine World.grownBy.gr_set ?_ (by simp) _ | with_reducible refine gr_alloc ?_ _)) hg)
  clear hg
  go_wp2_with fail
  go_ret
  exact ⟨rfl, HG.out⟩
set_option maxRecDepth 100000 in
set_option maxHeartbeats 4000000 in
theorem Fits_diff (g g' c c' : Nat) (k k' n m m' : Int) (s r r' : ByteArray) (hk : ¬ k = k') (h1 : ¬ k = 1) (h1' : ¬ k' = 1) (w : World) (hv : VarsK w) (hd : w.heap[g]? = some (.cells #[.int .i64 k, .int .i64 m, .string r, .slice none 0 0] 24 (0, 0))) (hd' : w.heap[g']? = some (.cells #[.int .i64 k', .int .i64 m', .string r', .slice none 0 0] 24 (0, 0))) :
    Calls Tryd.prog 23 #[tV 5 n s (.slice (some ⟨g, 0, none⟩) 1 c), tV 5 n s (.slice (some ⟨g', 0, none⟩) 1 c'), .bool false] w fun e w' => e = .returned (.bool false) ∧ w.grownBy w' none := by
  have HV := Lib.hid hv
  have HD := Lib.hid hd
  have HD' := Lib.hid hd'
  have HN := fun w' hw' => Number_any 5 n s (.slice (some ⟨g, 0, none⟩) 1 c) w' hw'
  rw [show numK 5 = false from rfl] at HN
  have HT := Lib.hid (fun w' h1 => toVoid_one 5 n k s g c w' h1)
  have HT' := Lib.hid (fun w' h1 => toVoid_one 5 n k' s g' c' w' h1)
  have HS := Lib.hid (fun w' a b => Same_ptrs g g' c c' k k' n m m' s r r' hk w' a b)
  have hc := cell_of_row _ _ 0 _ _ _ hd
  have hc' := cell_of_row _ _ 0 _ _ _ hd'
  simp at hc hc'
  have HC := Lib.hid hc
  have HC' := Lib.hid hc'
  rw [show (k == 1) = false by simp [h1]] at HT
  rw [show (k' == 1) = false by simp [h1']] at HT'
  clear hv hc hc' hd hd' hk h1 h1'
  unfold tV at *
  go_enter Tryd.func23, Tryd.ntmps23
  go_wp2_with fail
  have HV0 := Lib.hid ((HV.out.alloc (.cells #[.int .i64 5, .int .i64 n, .string s, .slice (some ⟨g, 0, none⟩) 1 c] 24)).alloc (.cells #[.int .i64 5, .int .i64 n, .string s, .slice (some ⟨g', 0, none⟩) 1 c'] 24))
  refine (HN _ HV0.out).mono ?_
  rintro e w1 ⟨rfl, hg⟩
  have B0 := Lib.hid (blk_grown (k := w.heap.size) (o := .cells #[.int .i64 5, .int .i64 n, .string s, .slice (some ⟨g, 0, none⟩) 1 c] 24) (blk_alloc (blk_new _ _) _) hg)
  have B1 := Lib.hid (blk_grown (k := w.heap.size + 1) (o := .cells #[.int .i64 5, .int .i64 n, .string s, .slice (some ⟨g', 0, none⟩) 1 c'] 24) (blk_new2 _ _ _) hg)
  obtain ⟨a0, a1, a2, a3, _, _, _, _⟩ := cells4_of _ _ _ _ _ _ _ B0.out
  obtain ⟨b0, b1, b2, b3, _, _, _, _⟩ := cells4_of _ _ _ _ _ _ _ B1.out
  have HG := Lib.hid (grownBy_trans (show w.grownBy _ none by repeat (first | with_reducible exact grownBy_refl _ _ | with_reducible assumption | with_reducible refine World.grownBy.gr_drew ?_ | with_reducible refine World.grownBy.gr_set ?_ (by simp) _ | with_reducible refine gr_alloc ?_ _)) hg)
  clear hg
  go_wp2_with fail
  refine (HT.out w1 (HG.out.cell HC.out (by simp))).mono ?_
  rintro e w2 ⟨rfl, hg⟩
  have B0 := Lib.hid (blk_grown B0.out hg)
  have B1 := Lib.hid (blk_grown B1.out hg)
  have HG2 := Lib.hid (grownBy_trans HG.out hg)
  clear hg a0 a1 a2 a3 b0 b1 b2 b3
  obtain ⟨a0, a1, a2, a3, _, _, _, _⟩ := cells4_of _ _ _ _ _ _ _ B0.out
  obtain ⟨b0, b1, b2, b3, _, _, _, _⟩ := cells4_of _ _ _ _ _ _ _ B1.out
  go_wp2_with fail
  refine (HT'.out w2 (HG2.out.cell HC'.out (by simp))).mono ?_
  rintro e w3 ⟨rfl, hg⟩
  have B0 := Lib.hid (blk_grown B0.out hg)
  have B1 := Lib.hid (blk_grown B1.out hg)
  have HG3 := Lib.hid (grownBy_trans HG2.out hg)
  clear hg a0 a1 a2 a3 b0 b1 b2 b3
  obtain ⟨a0, a1, a2, a3, _, _, _, _⟩ := cells4_of _ _ _ _ _ _ _ B0.out
  obtain ⟨b0, b1, b2, b3, _, _, _, _⟩ := cells4_of _ _ _ _ _ _ _ B1.out
  go_wp2_with fail
  refine (HS.out w3 (blk_grown HD.out HG3.out) (blk_grown HD'.out HG3.out)).mono ?_
  rintro e w4 ⟨rfl, hg⟩
  have HG4 := Lib.hid (grownBy_trans HG3.out hg)
  clear hg
  go_wp2_with fail
  go_ret
  exact ⟨rfl, HG4.out⟩
set_option maxRecDepth 100000 in
set_option maxHeartbeats 4000000 in
theorem to_any (k : Int) (w : World) :
    Calls Tryd.prog 25 #[.int .i64 k] w fun e w' => ∃ g, e = .returned (tV 5 0 ⟨#[]⟩ (.slice (some ⟨g, 0, none⟩) 1 1)) ∧ w'.heap[g]? = some (.cells #[.int .i64 k, .int .i64 0, .string ⟨#[]⟩, .slice none 0 0] 24 (0, 0)) ∧ w.grownBy w' none := by
  unfold tV
  go_enter Tryd.func25, Tryd.ntmps25
  go_wp2_with fail
  refine bodyPost_ret (v := .agg #[.int .i64 5, .int .i64 0, .string ⟨#[]⟩, .slice (some ⟨w.heap.size + 1, 0, none⟩) 1 1]) (by simp [results, Tryd.results25, go_sem]) rfl ⟨_, rfl, blk_new2 _ _ _, by repeat (first | with_reducible exact grownBy_refl _ _ | with_reducible assumption | with_reducible refine World.grownBy.gr_drew ?_ | with_reducible refine World.grownBy.gr_set ?_ (by simp) _ | with_reducible refine gr_alloc ?_ _)⟩
set_option maxRecDepth 100000 in
set_option maxHeartbeats 4000000 in
theorem shown_any (w : World) (hv : VarsK w) : Calls Tryd.prog 10 #[] w fun e w' => e = .returned (.bool true) ∧ w.grownBy w' none := by
  have HV := Lib.hid hv
  have HD := Lib.hid (fun w' g hb => Decay_arr 3 3 0 ⟨#[]⟩ ⟨#[]⟩ g 1 w' hb)
  have HT := Lib.hid to_any
  have HF1 := Lib.hid (fun w' g g' a b c => Fits_void 0 ⟨#[]⟩ g 1 0 ⟨#[]⟩ g' 1 2 1 (.inr rfl) w' a b c)
  have HF2 := Lib.hid (fun w' g g' a b c => Fits_diff g g' 1 1 2 3 0 0 0 ⟨#[]⟩ ⟨#[]⟩ ⟨#[]⟩ (by decide) (by decide) (by decide) w' a b c)
  clear hv
  unfold tV at *
  go_enter Tryd.func10, Tryd.ntmps10
  go_wp2_with fail
  refine (HD.out _ _ (blk_new _ _)).mono ?_
  rintro e w1 ⟨g2, rfl, hb2, hg⟩
  have HB2 := Lib.hid hb2
  have HG1 := Lib.hid (grownBy_trans (show w.grownBy _ none by repeat (first | with_reducible exact grownBy_refl _ _ | with_reducible assumption | with_reducible refine World.grownBy.gr_drew ?_ | with_reducible refine World.grownBy.gr_set ?_ (by simp) _ | with_reducible refine gr_alloc ?_ _)) hg)
  clear hg hb2
  go_wp2_with fail
  have HA := Lib.hid (blk_new w1 (.cells #[.int .i64 5, .int .i64 0, .string ⟨#[]⟩, .slice (some ⟨g2, 0, none⟩) 1 1] 24))
  have HB := Lib.hid (blk_alloc HB2.out (.cells #[.int .i64 5, .int .i64 0, .string ⟨#[]⟩, .slice (some ⟨g2, 0, none⟩) 1 1] 24))
  have HG := Lib.hid (gr_alloc HG1.out (.cells #[.int .i64 5, .int .i64 0, .string ⟨#[]⟩, .slice (some ⟨g2, 0, none⟩) 1 1] 24))
  refine (HT.out 2 _).mono ?_
  rintro e w2 ⟨e2, rfl, hc2, hg⟩
  have HA := Lib.hid (blk_grown HA.out hg)
  have HB := Lib.hid (blk_grown HB.out hg)
  have HG := Lib.hid (grownBy_trans HG.out hg)
  have HC2 := Lib.hid hc2
  clear hg hc2
  go_wp2_with fail
  refine (HT.out 1 _).mono ?_
  rintro e w3 ⟨g3, rfl, hb3, hg⟩
  have HA := Lib.hid (blk_grown HA.out hg)
  have HB := Lib.hid (blk_grown HB.out hg)
  have HG := Lib.hid (grownBy_trans HG.out hg)
  have HC2 := Lib.hid (blk_grown HC2.out hg)
  have HC3 := Lib.hid hb3
  clear hg hb3
  go_wp2_with fail
  refine (HF1.out _ _ _ (HV.out.grown HG.out) ((cell_of_row _ _ 0 _ _ _ HC2.out).trans rfl) ((cell_of_row _ _ 0 _ _ _ HC3.out).trans rfl)).mono ?_
  rintro e w4 ⟨rfl, hg⟩
  have HA := Lib.hid (blk_grown HA.out hg)
  have HB := Lib.hid (blk_grown HB.out hg)
  have HG := Lib.hid (grownBy_trans HG.out hg)
  clear hg
  go_wp2_with fail
  refine (HT.out 2 _).mono ?_
  rintro e w5 ⟨g5, rfl, hb5, hg⟩
  have HA := Lib.hid (blk_grown HA.out hg)
  have HB := Lib.hid (blk_grown HB.out hg)
  have HG := Lib.hid (grownBy_trans HG.out hg)
  have HC5 := Lib.hid hb5
  clear hg hb5
  go_wp2_with fail
  refine (HT.out 3 _).mono ?_
  rintro e w6 ⟨g6, rfl, hb6, hg⟩
  have HA := Lib.hid (blk_grown HA.out hg)
  have HB := Lib.hid (blk_grown HB.out hg)
  have HG := Lib.hid (grownBy_trans HG.out hg)
  have HC5 := Lib.hid (blk_grown HC5.out hg)
  have HC6 := Lib.hid hb6
  clear hg hb6
  go_wp2_with fail
  refine (HF2.out _ _ _ (HV.out.grown HG.out) HC5.out HC6.out).mono ?_
  rintro e w7 ⟨rfl, hg⟩
  obtain ⟨a0, a1, a2, a3, _, _, _, _⟩ := cells4_of _ _ _ _ _ _ _ (blk_grown HA.out hg)
  have b0 := cell_of_row _ _ 0 _ _ _ (blk_grown HB.out hg)
  simp at b0
  have HG := Lib.hid (grownBy_trans HG.out hg)
  clear hg
  go_wp2_with fail
  go_ret
  exact ⟨rfl, HG.out⟩

end Go.Proofs.YthbialahladjiaaDoor
