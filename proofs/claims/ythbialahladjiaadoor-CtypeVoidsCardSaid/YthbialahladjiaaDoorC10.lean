/- CtypeVoids' walk. -/
import Derived.Test.YthbialahladjiaaDoorC8
namespace Go.Proofs.YthbialahladjiaaDoor
open Go.RowKit
/-- What CtypeVoids has made: u's box, p's and its part, v's and its part. -/
structure VoidsAt (w : World) (bp ga bv gv : Nat) (k n : Int) (s : ByteArray) (v : Value) (k' n' : Int) (s' : ByteArray) (v' : Value) (W : World) : Prop where
  u : W.heap[w.heap.size + 1]? = some (.cells #[.int .i64 k', .int .i64 n', .string s', v'] 24 (0, 0))
  p : W.heap[bp]? = some (.cells #[.int .i64 5, .int .i64 0, .string ⟨#[]⟩, .slice (some ⟨ga, 0, none⟩) 1 1] 24 (0, 0))
  a : W.heap[ga]? = some (.cells #[.int .i64 k, .int .i64 n, .string s, v] 24 (0, 0))
  q : W.heap[bv]? = some (.cells #[.int .i64 5, .int .i64 0, .string ⟨#[]⟩, .slice (some ⟨gv, 0, none⟩) 1 1] 24 (0, 0))
  c : W.heap[gv]? = some (.cells #[.int .i64 1, .int .i64 0, .string ⟨#[]⟩, .slice none 0 0] 24 (0, 0))
  v : VarsK W
  g : w.grownBy W none
section
variable {w W W' : World} {bp ga bv gv : Nat} {k n k' n' : Int} {s s' : ByteArray} {v v' : Value}
theorem VoidsAt.grown (h : VoidsAt w bp ga bv gv k n s v k' n' s' v' W) (g : W.grownBy W' none) : VoidsAt w bp ga bv gv k n s v k' n' s' v' W' :=
  ⟨blk_grown h.u g, blk_grown h.p g, blk_grown h.a g, blk_grown h.q g, blk_grown h.c g, h.v.grown g, grownBy_trans h.g g⟩
theorem VoidsAt.ca (h : VoidsAt w bp ga bv gv k n s v k' n' s' v' W) : W.cell? ⟨ga, 0, none⟩ = some (.int .i64 k) := (cell_of_row _ _ 0 _ _ _ h.a).trans rfl
theorem VoidsAt.cc (h : VoidsAt w bp ga bv gv k n s v k' n' s' v' W) : W.cell? ⟨gv, 0, none⟩ = some (.int .i64 1) := (cell_of_row _ _ 0 _ _ _ h.c).trans rfl
theorem VoidsAt.reads (h : VoidsAt w bp ga bv gv k n s v k' n' s' v' W) :
    (W.cell? ⟨w.heap.size + 1, 0, none⟩ = some (.int .i64 k') ∧ W.cell? ⟨w.heap.size + 1, 1, none⟩ = some (.int .i64 n') ∧ W.cell? ⟨w.heap.size + 1, 2, none⟩ = some (.string s') ∧ W.cell? ⟨w.heap.size + 1, 3, none⟩ = some v') ∧
    (W.cell? ⟨bp, 0, none⟩ = some (.int .i64 5) ∧ W.cell? ⟨bp, 1, none⟩ = some (.int .i64 0) ∧ W.cell? ⟨bp, 2, none⟩ = some (.string ⟨#[]⟩) ∧ W.cell? ⟨bp, 3, none⟩ = some (.slice (some ⟨ga, 0, none⟩) 1 1)) ∧
    (W.cell? ⟨bv, 0, none⟩ = some (.int .i64 5) ∧ W.cell? ⟨bv, 1, none⟩ = some (.int .i64 0) ∧ W.cell? ⟨bv, 2, none⟩ = some (.string ⟨#[]⟩) ∧ W.cell? ⟨bv, 3, none⟩ = some (.slice (some ⟨gv, 0, none⟩) 1 1)) := by
  obtain ⟨a0, a1, a2, a3, _⟩ := cells4_of _ _ _ _ _ _ _ h.u
  obtain ⟨b0, b1, b2, b3, _⟩ := cells4_of _ _ _ _ _ _ _ h.p
  obtain ⟨c0, c1, c2, c3, _⟩ := cells4_of _ _ _ _ _ _ _ h.q
  exact ⟨⟨a0, a1, a2, a3⟩, ⟨b0, b1, b2, b3⟩, ⟨c0, c1, c2, c3⟩⟩
end
set_option maxRecDepth 100000 in
set_option maxHeartbeats 4000000 in
theorem voids_off (k n k' n' : Int) (s s' : ByteArray) (v v' : Value) (hN : numK k' = false) (w : World) (hv : VarsK w) :
    Calls Tryd.prog 8 #[tV k n s v, tV k' n' s' v'] w fun e w' => e = .returned (.bool true) ∧ w.grownBy w' none := by
  have HV := Lib.hid hv
  have HSh := Lib.hid shown_any
  have HT := Lib.hid to_any
  have HF1 := Lib.hid (fun W ga gv a b c => Fits_void 0 ⟨#[]⟩ ga 1 0 ⟨#[]⟩ gv 1 k 1 (.inr rfl) W a b c)
  have HF2 := Lib.hid (fun W ga gv a b c => Fits_void 0 ⟨#[]⟩ gv 1 0 ⟨#[]⟩ ga 1 1 k (.inl rfl) W a b c)
  have HF3 := Lib.hid (fun W g a => Fits_off 0 ⟨#[]⟩ (.slice (some ⟨g, 0, none⟩) 1 1) 4 0 ⟨#[]⟩ (.slice none 0 0) (by decide) W a)
  have HN := Lib.hid (fun W a => Number_any k' n' s' v' W a)
  rw [hN] at HN
  clear hv
  unfold tV at *
  go_enter Tryd.func8, Tryd.ntmps8
  go_wp2_with fail
  refine (HSh.out _ ((HV.out.alloc _).alloc _)).mono ?_
  rintro e w1 ⟨rfl, hg⟩
  obtain ⟨a0, a1, a2, a3, _⟩ := cells4_of _ _ _ _ _ _ _ (blk_grown (k := w.heap.size) (o := .cells #[.int .i64 k, .int .i64 n, .string s, v] 24) (blk_alloc (blk_new _ _) _) hg)
  have HU := Lib.hid (blk_grown (blk_new2 w (.cells #[.int .i64 k, .int .i64 n, .string s, v] 24) (.cells #[.int .i64 k', .int .i64 n', .string s', v'] 24)) hg)
  have HG := Lib.hid (grownBy_trans (show w.grownBy _ none by repeat (first | with_reducible exact grownBy_refl _ _ | with_reducible assumption | with_reducible refine World.grownBy.gr_drew ?_ | with_reducible refine World.grownBy.gr_set ?_ (by simp) _ | with_reducible refine gr_alloc ?_ _)) hg)
  have HV1 := Lib.hid (HV.out.grown HG.out)
  clear hg
  go_wp2_with fail
  refine (HT.out _ _).mono ?_
  rintro e w2 ⟨gv, rfl, hb, hg⟩
  have hga := blk_grown (blk_alloc (blk_new w1 (.cells #[.int .i64 k, .int .i64 n, .string s, v] 24)) (.cells #[.int .i64 5, .int .i64 0, .string ⟨#[]⟩, .slice (some ⟨w1.heap.size, 0, none⟩) 1 1] 24)) hg
  have hbp := blk_grown (blk_new2 w1 (.cells #[.int .i64 k, .int .i64 n, .string s, v] 24) (.cells #[.int .i64 5, .int .i64 0, .string ⟨#[]⟩, .slice (some ⟨w1.heap.size, 0, none⟩) 1 1] 24)) hg
  have hu2 := blk_grown (blk_alloc (blk_alloc HU.out (.cells #[.int .i64 k, .int .i64 n, .string s, v] 24)) (.cells #[.int .i64 5, .int .i64 0, .string ⟨#[]⟩, .slice (some ⟨w1.heap.size, 0, none⟩) 1 1] 24)) hg
  have hg2 := grownBy_trans (gr_alloc (gr_alloc HG.out (.cells #[.int .i64 k, .int .i64 n, .string s, v] 24)) (.cells #[.int .i64 5, .int .i64 0, .string ⟨#[]⟩, .slice (some ⟨w1.heap.size, 0, none⟩) 1 1] 24)) hg
  have X0 : VoidsAt w (w1.heap.size + 1) w1.heap.size w2.heap.size gv k n s v k' n' s' v' (w2.alloc (.cells #[.int .i64 5, .int .i64 0, .string ⟨#[]⟩, .slice (some ⟨gv, 0, none⟩) 1 1] 24)) :=
    ⟨blk_alloc hu2 _, blk_alloc hbp _, blk_alloc hga _, blk_new _ _, blk_alloc hb _, (HV.out.grown hg2).alloc _, gr_alloc hg2 _⟩
  clear hg hga hbp hu2 hg2 hb HU HG HV1 a0 a1 a2 a3
  obtain ⟨⟨a0, a1, a2, a3⟩, ⟨b0, b1, b2, b3⟩, c0, c1, c2, c3⟩ := X0.reads
  go_wp2_with fail
  refine (HF1.out _ _ _ X0.v X0.ca X0.cc).mono ?_
  rintro e y1 ⟨rfl, hg⟩
  have X1 := X0.grown hg
  clear hg a0 a1 a2 a3 b0 b1 b2 b3 c0 c1 c2 c3
  obtain ⟨⟨a0, a1, a2, a3⟩, ⟨b0, b1, b2, b3⟩, c0, c1, c2, c3⟩ := X1.reads
  go_wp2_with fail
  refine (HF2.out _ _ _ X1.v X1.cc X1.ca).mono ?_
  rintro e y2 ⟨rfl, hg⟩
  have X2 := X1.grown hg
  clear hg a0 a1 a2 a3 b0 b1 b2 b3 c0 c1 c2 c3
  obtain ⟨⟨a0, a1, a2, a3⟩, ⟨b0, b1, b2, b3⟩, c0, c1, c2, c3⟩ := X2.reads
  go_wp2_with fail
  refine (HT.out _ _).mono ?_
  rintro e y3 ⟨gt, rfl, _, hg⟩
  have X3 := X2.grown hg
  clear hg a0 a1 a2 a3 b0 b1 b2 b3 c0 c1 c2 c3
  obtain ⟨⟨a0, a1, a2, a3⟩, ⟨b0, b1, b2, b3⟩, c0, c1, c2, c3⟩ := X3.reads
  go_wp2_with fail
  refine (HF3.out _ _ X3.v).mono ?_
  rintro e y4 ⟨rfl, hg⟩
  have X4 := X3.grown hg
  clear hg a0 a1 a2 a3 b0 b1 b2 b3 c0 c1 c2 c3
  obtain ⟨⟨a0, a1, a2, a3⟩, ⟨b0, b1, b2, b3⟩, c0, c1, c2, c3⟩ := X4.reads
  go_wp2_with fail
  refine (HN.out _ X4.v).mono ?_
  rintro e y5 ⟨rfl, hg⟩
  have X5 := X4.grown hg
  clear hg a0 a1 a2 a3 b0 b1 b2 b3 c0 c1 c2 c3
  obtain ⟨⟨a0, a1, a2, a3⟩, ⟨b0, b1, b2, b3⟩, c0, c1, c2, c3⟩ := X5.reads
  go_wp2_with fail
  go_ret
  exact ⟨rfl, X5.g⟩
set_option maxRecDepth 100000 in
set_option maxHeartbeats 4000000 in
theorem voids_num (k n k' n' : Int) (s s' : ByteArray) (v v' : Value) (hN : numK k' = true) (w : World) (hv : VarsK w) :
    Calls Tryd.prog 8 #[tV k n s v, tV k' n' s' v'] w fun e w' => e = .returned (.bool true) ∧ w.grownBy w' none := by
  have HV := Lib.hid hv
  have HSh := Lib.hid shown_any
  have HT := Lib.hid to_any
  have HF1 := Lib.hid (fun W ga gv a b c => Fits_void 0 ⟨#[]⟩ ga 1 0 ⟨#[]⟩ gv 1 k 1 (.inr rfl) W a b c)
  have HF2 := Lib.hid (fun W ga gv a b c => Fits_void 0 ⟨#[]⟩ gv 1 0 ⟨#[]⟩ ga 1 1 k (.inl rfl) W a b c)
  have HF3 := Lib.hid (fun W g a => Fits_off 0 ⟨#[]⟩ (.slice (some ⟨g, 0, none⟩) 1 1) 4 0 ⟨#[]⟩ (.slice none 0 0) (by decide) W a)
  have HN := Lib.hid (fun W a => Number_any k' n' s' v' W a)
  rw [hN] at HN
  have HA := Lib.hid (fun z W g a => Fits_num k' n' s' v' 5 0 ⟨#[]⟩ (.slice (some ⟨g, 0, none⟩) 1 1) z hN W a)
  have HB := Lib.hid (fun W g a => Fits_off 0 ⟨#[]⟩ (.slice (some ⟨g, 0, none⟩) 1 1) k' n' s' v' (by intro e; rw [e] at hN; cases hN) W a)
  rw [show numK 5 = false from rfl] at HA
  clear hv
  unfold tV at *
  go_enter Tryd.func8, Tryd.ntmps8
  go_wp2_with fail
  refine (HSh.out _ ((HV.out.alloc _).alloc _)).mono ?_
  rintro e w1 ⟨rfl, hg⟩
  obtain ⟨a0, a1, a2, a3, _⟩ := cells4_of _ _ _ _ _ _ _ (blk_grown (k := w.heap.size) (o := .cells #[.int .i64 k, .int .i64 n, .string s, v] 24) (blk_alloc (blk_new _ _) _) hg)
  have HU := Lib.hid (blk_grown (blk_new2 w (.cells #[.int .i64 k, .int .i64 n, .string s, v] 24) (.cells #[.int .i64 k', .int .i64 n', .string s', v'] 24)) hg)
  have HG := Lib.hid (grownBy_trans (show w.grownBy _ none by repeat (first | with_reducible exact grownBy_refl _ _ | with_reducible assumption | with_reducible refine World.grownBy.gr_drew ?_ | with_reducible refine World.grownBy.gr_set ?_ (by simp) _ | with_reducible refine gr_alloc ?_ _)) hg)
  have HV1 := Lib.hid (HV.out.grown HG.out)
  clear hg
  go_wp2_with fail
  refine (HT.out _ _).mono ?_
  rintro e w2 ⟨gv, rfl, hb, hg⟩
  have hga := blk_grown (blk_alloc (blk_new w1 (.cells #[.int .i64 k, .int .i64 n, .string s, v] 24)) (.cells #[.int .i64 5, .int .i64 0, .string ⟨#[]⟩, .slice (some ⟨w1.heap.size, 0, none⟩) 1 1] 24)) hg
  have hbp := blk_grown (blk_new2 w1 (.cells #[.int .i64 k, .int .i64 n, .string s, v] 24) (.cells #[.int .i64 5, .int .i64 0, .string ⟨#[]⟩, .slice (some ⟨w1.heap.size, 0, none⟩) 1 1] 24)) hg
  have hu2 := blk_grown (blk_alloc (blk_alloc HU.out (.cells #[.int .i64 k, .int .i64 n, .string s, v] 24)) (.cells #[.int .i64 5, .int .i64 0, .string ⟨#[]⟩, .slice (some ⟨w1.heap.size, 0, none⟩) 1 1] 24)) hg
  have hg2 := grownBy_trans (gr_alloc (gr_alloc HG.out (.cells #[.int .i64 k, .int .i64 n, .string s, v] 24)) (.cells #[.int .i64 5, .int .i64 0, .string ⟨#[]⟩, .slice (some ⟨w1.heap.size, 0, none⟩) 1 1] 24)) hg
  have X0 : VoidsAt w (w1.heap.size + 1) w1.heap.size w2.heap.size gv k n s v k' n' s' v' (w2.alloc (.cells #[.int .i64 5, .int .i64 0, .string ⟨#[]⟩, .slice (some ⟨gv, 0, none⟩) 1 1] 24)) :=
    ⟨blk_alloc hu2 _, blk_alloc hbp _, blk_alloc hga _, blk_new _ _, blk_alloc hb _, (HV.out.grown hg2).alloc _, gr_alloc hg2 _⟩
  clear hg hga hbp hu2 hg2 hb HU HG HV1 a0 a1 a2 a3
  obtain ⟨⟨a0, a1, a2, a3⟩, ⟨b0, b1, b2, b3⟩, c0, c1, c2, c3⟩ := X0.reads
  go_wp2_with fail
  refine (HF1.out _ _ _ X0.v X0.ca X0.cc).mono ?_
  rintro e y1 ⟨rfl, hg⟩
  have X1 := X0.grown hg
  clear hg a0 a1 a2 a3 b0 b1 b2 b3 c0 c1 c2 c3
  obtain ⟨⟨a0, a1, a2, a3⟩, ⟨b0, b1, b2, b3⟩, c0, c1, c2, c3⟩ := X1.reads
  go_wp2_with fail
  refine (HF2.out _ _ _ X1.v X1.cc X1.ca).mono ?_
  rintro e y2 ⟨rfl, hg⟩
  have X2 := X1.grown hg
  clear hg a0 a1 a2 a3 b0 b1 b2 b3 c0 c1 c2 c3
  obtain ⟨⟨a0, a1, a2, a3⟩, ⟨b0, b1, b2, b3⟩, c0, c1, c2, c3⟩ := X2.reads
  go_wp2_with fail
  refine (HT.out _ _).mono ?_
  rintro e y3 ⟨gt, rfl, _, hg⟩
  have X3 := X2.grown hg
  clear hg a0 a1 a2 a3 b0 b1 b2 b3 c0 c1 c2 c3
  obtain ⟨⟨a0, a1, a2, a3⟩, ⟨b0, b1, b2, b3⟩, c0, c1, c2, c3⟩ := X3.reads
  go_wp2_with fail
  refine (HF3.out _ _ X3.v).mono ?_
  rintro e y4 ⟨rfl, hg⟩
  have X4 := X3.grown hg
  clear hg a0 a1 a2 a3 b0 b1 b2 b3 c0 c1 c2 c3
  obtain ⟨⟨a0, a1, a2, a3⟩, ⟨b0, b1, b2, b3⟩, c0, c1, c2, c3⟩ := X4.reads
  go_wp2_with fail
  refine (HN.out _ X4.v).mono ?_
  rintro e y5 ⟨rfl, hg⟩
  have X5 := X4.grown hg
  clear hg a0 a1 a2 a3 b0 b1 b2 b3 c0 c1 c2 c3
  obtain ⟨⟨a0, a1, a2, a3⟩, ⟨b0, b1, b2, b3⟩, c0, c1, c2, c3⟩ := X5.reads
  go_wp2_with fail
  refine (HA.out _ _ _ X5.v).mono ?_
  rintro e y6 ⟨rfl, hg⟩
  have X6 := X5.grown hg
  clear hg a0 a1 a2 a3 b0 b1 b2 b3 c0 c1 c2 c3
  obtain ⟨⟨a0, a1, a2, a3⟩, ⟨b0, b1, b2, b3⟩, c0, c1, c2, c3⟩ := X6.reads
  go_wp2_with fail
  refine (HA.out _ _ _ X6.v).mono ?_
  rintro e y7 ⟨rfl, hg⟩
  have X7 := X6.grown hg
  clear hg a0 a1 a2 a3 b0 b1 b2 b3 c0 c1 c2 c3
  obtain ⟨⟨a0, a1, a2, a3⟩, ⟨b0, b1, b2, b3⟩, c0, c1, c2, c3⟩ := X7.reads
  go_wp2_with fail
  refine (HB.out _ _ X7.v).mono ?_
  rintro e y8 ⟨rfl, hg⟩
  have X8 := X7.grown hg
  clear hg a0 a1 a2 a3 b0 b1 b2 b3 c0 c1 c2 c3
  obtain ⟨⟨a0, a1, a2, a3⟩, ⟨b0, b1, b2, b3⟩, c0, c1, c2, c3⟩ := X8.reads
  go_wp2_with fail
  go_ret
  exact ⟨rfl, X8.g⟩
theorem voids_walk (k n k' n' : Int) (s s' : ByteArray) (v v' : Value) (w : World) (hv : VarsK w) :
    Calls Tryd.prog 8 #[tV k n s v, tV k' n' s' v'] w fun e w' => e = .returned (.bool true) ∧ w.grownBy w' none := by
  cases hN : numK k' with
  | true => exact voids_num k n k' n' s s' v v' hN w hv
  | false => exact voids_off k n k' n' s s' v v' hN w hv

end Go.Proofs.YthbialahladjiaaDoor
