/- norm: innermost, fieldsOf of no records, fieldAt. -/
import Derived.Test.YtjfbkogjgjmndaaDoorNe
namespace Go.Proofs.YtjfbkogjgjmndaaDoor
open Go.RowKit
open Go.Shelf
set_option maxRecDepth 100000 in
set_option maxHeartbeats 4000000 in
theorem innermost_sc (k : Int) (hk : k ≠ 6) (w : World) :
    Calls Tryd.prog 14 #[scV k] w fun e w' => e = .returned (scV k) ∧ w.grownBy w' none := by
  unfold scV tV
  have e1 : (k == 6) = false := by simp [hk]
  have h1 : ((w.alloc (.cells #[.int .i64 k, .int .i64 0, .string ⟨#[]⟩, .slice none 0 0] 26)).alloc (.cells #[.int .i64 0, .int .i64 0, .string ⟨#[]⟩, .slice none 0 0] 26)).heap[w.heap.size]? = some (.cells #[.int .i64 k, .int .i64 0, .string ⟨#[]⟩, .slice none 0 0] 26 (0, 0)) := blk_alloc (blk_new w _) _
  have h2 : ((w.alloc (.cells #[.int .i64 k, .int .i64 0, .string ⟨#[]⟩, .slice none 0 0] 26)).alloc (.cells #[.int .i64 0, .int .i64 0, .string ⟨#[]⟩, .slice none 0 0] 26)).heap[w.heap.size + 1]? = some (.cells #[.int .i64 0, .int .i64 0, .string ⟨#[]⟩, .slice none 0 0] 26) := by
    have := blk_new (w.alloc (.cells #[.int .i64 k, .int .i64 0, .string ⟨#[]⟩, .slice none 0 0] 26)) (.cells #[.int .i64 0, .int .i64 0, .string ⟨#[]⟩, .slice none 0 0] 26)
    simpa using this
  have h3 : w.grownBy ((w.alloc (.cells #[.int .i64 k, .int .i64 0, .string ⟨#[]⟩, .slice none 0 0] 26)).alloc (.cells #[.int .i64 0, .int .i64 0, .string ⟨#[]⟩, .slice none 0 0] 26)) none := by repeat (first | with_reducible exact grownBy_refl _ _ | with_reducible assumption | with_reducible refine World.grownBy.gr_drew ?_ | with_reducible refine World.grownBy.gr_set ?_ (by simp) _ | with_reducible refine gr_alloc ?_ _)
  go_enter Tryd.func14, Tryd.ntmps14
  go_wp2_with fail
  generalize ((w.alloc (.cells #[.int .i64 k, .int .i64 0, .string ⟨#[]⟩, .slice none 0 0] 26)).alloc (.cells #[.int .i64 0, .int .i64 0, .string ⟨#[]⟩, .slice none 0 0] 26)) = W at *
  have H1 := Lib.hid h1
  have H2 := Lib.hid h2
  have H3 := Lib.hid h3
  clear h1 h2 h3
  go_loopw [3] (fun _ wr => W = wr) (fun _ _ => 0)
  case atStart => rfl
  case round =>
    subst hrel
    obtain ⟨c0, c1, c2, c3, _, _, _, _⟩ := cells4_of H1.out
    obtain ⟨d0, d1, d2, d3, z0, z1, z2, z3⟩ := cells4_of H2.out
    go_wp2_with fail
    obtain ⟨s0, s1, s2, s3, _⟩ := cells4_of (put4 H2.out (.int .i64 k) (.int .i64 0) (.string ⟨#[]⟩) (.slice none 0 0))
    refine bodyPost_ret (v := .agg #[.int .i64 k, .int .i64 0, .string ⟨#[]⟩, .slice none 0 0]) (by simp [results, Tryd.results14, go_sem, s0, s1, s2, s3]) rfl ⟨rfl, gr_set4 H3.out (by omega) _ _ _ _⟩
set_option maxRecDepth 100000 in
set_option maxHeartbeats 4000000 in
theorem innermost_ar (n k : Int) (b c : Nat) (hk : k ≠ 6) (w : World) (hb : ArrAt w b k) :
    Calls Tryd.prog 14 #[arV n b c] w fun e w' => e = .returned (scV k) ∧ w.grownBy w' none := by
  unfold scV arV tV
  have e1 : (k == 6) = false := by simp [hk]
  have HA := Lib.hid hb
  have h1 : ((w.alloc (.cells #[.int .i64 6, .int .i64 n, .string ⟨#[]⟩, .slice (some ⟨b, 0, none⟩) 1 c] 26)).alloc (.cells #[.int .i64 0, .int .i64 0, .string ⟨#[]⟩, .slice none 0 0] 26)).heap[w.heap.size]? = some (.cells #[.int .i64 6, .int .i64 n, .string ⟨#[]⟩, .slice (some ⟨b, 0, none⟩) 1 c] 26 (0, 0)) := blk_alloc (blk_new w _) _
  have h2 : ((w.alloc (.cells #[.int .i64 6, .int .i64 n, .string ⟨#[]⟩, .slice (some ⟨b, 0, none⟩) 1 c] 26)).alloc (.cells #[.int .i64 0, .int .i64 0, .string ⟨#[]⟩, .slice none 0 0] 26)).heap[w.heap.size + 1]? = some (.cells #[.int .i64 0, .int .i64 0, .string ⟨#[]⟩, .slice none 0 0] 26) := by
    have := blk_new (w.alloc (.cells #[.int .i64 6, .int .i64 n, .string ⟨#[]⟩, .slice (some ⟨b, 0, none⟩) 1 c] 26)) (.cells #[.int .i64 0, .int .i64 0, .string ⟨#[]⟩, .slice none 0 0] 26)
    simpa using this
  have h3 : w.grownBy ((w.alloc (.cells #[.int .i64 6, .int .i64 n, .string ⟨#[]⟩, .slice (some ⟨b, 0, none⟩) 1 c] 26)).alloc (.cells #[.int .i64 0, .int .i64 0, .string ⟨#[]⟩, .slice none 0 0] 26)) none := by repeat (first | with_reducible exact grownBy_refl _ _ | with_reducible assumption | with_reducible refine World.grownBy.gr_drew ?_ | with_reducible refine World.grownBy.gr_set ?_ (by simp) _ | with_reducible refine gr_alloc ?_ _)
  clear hb
  go_enter Tryd.func14, Tryd.ntmps14
  go_wp2_with fail
  generalize ((w.alloc (.cells #[.int .i64 6, .int .i64 n, .string ⟨#[]⟩, .slice (some ⟨b, 0, none⟩) 1 c] 26)).alloc (.cells #[.int .i64 0, .int .i64 0, .string ⟨#[]⟩, .slice none 0 0] 26)) = W at *
  have H1 := Lib.hid h1
  have H2 := Lib.hid h2
  have H3 := Lib.hid h3
  clear h1 h2 h3
  go_loopg [3] 1 (fun g0 _ wr => Hid (w.grownBy wr none) ∧ Hid (wr.heap[w.heap.size + 1]? = some (.cells #[.int .i64 0, .int .i64 0, .string ⟨#[]⟩, .slice none 0 0] 26)) ∧
    (g0 = 1 ∧ Hid (wr.heap[w.heap.size]? = some (.cells #[.int .i64 6, .int .i64 n, .string ⟨#[]⟩, .slice (some ⟨b, 0, none⟩) 1 c] 26 (0, 0))) ∨
     g0 = 0 ∧ Hid (wr.heap[w.heap.size]? = some (.cells #[.int .i64 k, .int .i64 0, .string ⟨#[]⟩, .slice none 0 0] 26 (0, 0)))))
  case atStart => exact ⟨H3, H2, .inl ⟨rfl, H1⟩⟩
  case round =>
    obtain ⟨HG, HZ, ⟨rfl, HB⟩ | ⟨rfl, HB⟩⟩ := hrel
    · obtain ⟨c0, c1, c2, c3, f0, f1, f2, f3⟩ := cells4_of HB.out
      obtain ⟨d0, d1, d2, d3⟩ := (HA.out.gr HG.out).cells
      go_wp2_with fail
      go_roundg 0
      case measure => omega
      case rel =>
        refine ⟨gr_set4 HG.out (Nat.le_refl _) _ _ _ _, ?_, .inr ⟨rfl, put4 HB.out _ _ _ _⟩⟩
        exact ((((Below.heap_setCell _ _ _ _ (by simp)).trans (Below.heap_setCell _ _ _ _ (by simp))).trans (Below.heap_setCell _ _ _ _ (by simp))).trans (Below.heap_setCell _ _ _ _ (by simp))).trans HZ.out
    · obtain ⟨c0, c1, c2, c3, _, _, _, _⟩ := cells4_of HB.out
      obtain ⟨d0, d1, d2, d3, z0, z1, z2, z3⟩ := cells4_of HZ.out
      go_wp2_with fail
      obtain ⟨s0, s1, s2, s3, _⟩ := cells4_of (put4 HZ.out (.int .i64 k) (.int .i64 0) (.string ⟨#[]⟩) (.slice none 0 0))
      refine bodyPost_ret (v := .agg #[.int .i64 k, .int .i64 0, .string ⟨#[]⟩, .slice none 0 0]) (by simp [results, Tryd.results14, go_sem, s0, s1, s2, s3]) rfl ⟨rfl, gr_set4 HG.out (by omega) _ _ _ _⟩
set_option maxRecDepth 100000 in
set_option maxHeartbeats 4000000 in
theorem fieldsOf_none (tk tn : Int) (ts : ByteArray) (ta : Option Addr) (tl tc : Nat) (w : World) :
    Calls Tryd.prog 22 #[.slice none 0 0, .agg #[.int .i64 tk, .int .i64 tn, .string ts, .slice ta tl tc]] w fun e w' => e = .returned (.slice none 0 0) ∧ w.grownBy w' none := by
  go_enter Tryd.func22, Tryd.ntmps22
  go_wp2_with fail
  have HG := Lib.hid (gr_alloc (grownBy_refl w none) (.cells #[.int .i64 tk, .int .i64 tn, .string ts, .slice ta tl tc] 26))
  generalize (w.alloc (.cells #[.int .i64 tk, .int .i64 tn, .string ts, .slice ta tl tc] 26)) = W at *
  go_loopw [9] (fun i wr => i = .int .i64 0 ∧ W = wr) (fun _ _ => 0)
  case atStart => exact ⟨rfl, rfl⟩
  case round =>
    obtain ⟨rfl, rfl⟩ := hrel
    go_wp2_with fail
    go_ret
    exact ⟨rfl, HG.out⟩

end Go.Proofs.YtjfbkogjgjmndaaDoor
