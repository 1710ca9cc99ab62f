/- norm: normal, Norm, over numbers and arrays of them, without records. -/
import Derived.Test.YtjfbkogjgjmndaaDoorNg
namespace Go.Proofs.YtjfbkogjgjmndaaDoor
open Go.RowKit
set_option maxRecDepth 100000 in
set_option maxHeartbeats 4000000 in
theorem normal_end (r : Value) (tk tn : Int) (ts : ByteArray) (ta : Option Addr) (tl tc : Nat) (n : Int) (w : World) :
    Calls Tryd.prog 11 #[r, .agg #[.int .i64 tk, .int .i64 tn, .string ts, .slice ta tl tc], .int .i64 n, .int .i64 n] w fun e w' => e = .returned (.int .i64 n) ∧ w.grownBy w' none := by
  go_enter Tryd.func11, Tryd.ntmps11
  go_wp2_with fail
  go_ret
  exact ⟨rfl, by repeat (first | with_reducible exact grownBy_refl _ _ | with_reducible assumption | with_reducible refine World.grownBy.gr_drew ?_ | with_reducible refine World.grownBy.gr_set ?_ (by simp) _ | with_reducible refine gr_alloc ?_ _)⟩
theorem noF_is : noF = .agg #[.string ⟨#[]⟩, .int .i64 0, .int .i64 0, .string ⟨#[]⟩, .slice none 0 0, .int .i64 0] := rfl
set_option maxRecDepth 100000 in
set_option maxHeartbeats 4000000 in
theorem normal_gen (tk tn : Int) (ts : ByteArray) (ta : Option Addr) (tl tc : Nat) (k n off : Int) (hk : numK k = true) (hne : off ≠ n) (h0 : 0 ≤ off) (h1 : off ≤ 100000) (w : World) (hv : VarsK w)
    (hI : ∀ w', w.grownBy w' none → Calls Tryd.prog 14 #[.agg #[.int .i64 tk, .int .i64 tn, .string ts, .slice ta tl tc]] w' fun e w'' => e = .returned (scV k) ∧ w'.grownBy w'' none) :
    Calls Tryd.prog 11 #[.slice none 0 0, .agg #[.int .i64 tk, .int .i64 tn, .string ts, .slice ta tl tc], .int .i64 n, .int .i64 off] w fun e w' => e = .returned (.int .i64 (off % widthK k)) ∧ w.grownBy w' none := by
  have hw1 : 1 ≤ widthK k := by
    unfold numK at hk
    have hk' : k = 2 ∨ k = 3 ∨ k = 4 := of_decide_eq_true hk
    rcases hk' with rfl | rfl | rfl <;> decide
  obtain ⟨_, hw8⟩ := wid_le k
  have HI := Lib.hid hI
  have HE := Lib.hid (fun (w' : World) (g : w.grownBy w' none) => inElement_gen (.slice none 0 0) k 0 ⟨#[]⟩ none 0 0 (widthK k) (widthK k) off hw1 (by omega) h0 h1 w' (fun w'' g' => Size_sc (.slice none 0 0) k hk w'' (hv.grown (grownBy_trans g g'))))
  have hm0 := Int.emod_nonneg off (show widthK k ≠ 0 by omega)
  have hm1 := Int.emod_lt_of_pos off (show 0 < widthK k by omega)
  generalize off % widthK k = q at *
  have hwq : IntKind.i64.wrap (0 + q) = q := by rw [IntKind.wrap_i64]; omega
  have heq : (off == n) = false := by simp [hne]
  have HB := Lib.hid (blk_new w (.cells #[.int .i64 tk, .int .i64 tn, .string ts, .slice ta tl tc] 26))
  have HG := Lib.hid (gr_alloc (grownBy_refl w none) (.cells #[.int .i64 tk, .int .i64 tn, .string ts, .slice ta tl tc] 26))
  clear hI hk hv hne
  unfold scV tV at *
  go_enter Tryd.func11, Tryd.ntmps11
  go_wp2_with fail
  generalize (w.alloc (.cells #[.int .i64 tk, .int .i64 tn, .string ts, .slice ta tl tc] 26)) = W at *
  go_loopw [16, 9, 3] (fun i b o wr => i = .int .i64 0 ∧ b = .int .i64 0 ∧ o = .int .i64 off ∧ W = wr) (fun _ _ _ _ => 0)
  case atStart => exact ⟨rfl, rfl, rfl, rfl⟩
  case round =>
    obtain ⟨rfl, rfl, rfl, rfl⟩ := hrel
    obtain ⟨c0, c1, c2, c3, z0, z1, z2, z3⟩ := cells4_of HB.out
    go_wp2_with fail
    refine (HI.out _ HG.out).mono ?_
    rintro e w1 ⟨rfl, hg⟩
    have hb1 := (hg.block _ (lt_of_heap HB.out) (by simp)).trans HB.out
    obtain ⟨d0, d1, d2, d3, y0, y1, y2, y3⟩ := cells4_of hb1
    have HB1 := Lib.hid hb1
    have HG1 := Lib.hid (grownBy_trans HG.out hg)
    clear hg hb1 c0 c1 c2 c3 z0 z1 z2 z3
    go_wp2_with fail
    have hp := put4 HB1.out (.int .i64 k) (.int .i64 0) (.string ⟨#[]⟩) (.slice none 0 0)
    have hg := gr_set4 (b := w.heap.size) HG1.out (Nat.le_refl _) (.int .i64 k) (.int .i64 0) (.string ⟨#[]⟩) (.slice none 0 0)
    generalize ((((w1.setCell ⟨w.heap.size, 0, none⟩ (.int .i64 k)).setCell ⟨w.heap.size, 1, none⟩ (.int .i64 0)).setCell ⟨w.heap.size, 2, none⟩ (.string ⟨#[]⟩)).setCell ⟨w.heap.size, 3, none⟩ (.slice none 0 0)) = w2 at *
    have HP := Lib.hid hp
    have HG2 := Lib.hid hg
    clear d0 d1 d2 d3 y0 y1 y2 y3 hp hg
    refine (HE.out _ HG2.out).mono ?_
    rintro e w3 ⟨rfl, hg⟩
    obtain ⟨d0, d1, d2, d3, y0, y1, y2, y3⟩ := cells4_of ((hg.block _ (lt_of_heap HP.out) (by simp)).trans HP.out)
    have HG3 := Lib.hid (grownBy_trans HG2.out hg)
    clear hg
    go_wp2_with fail
    refine (fieldAt_none _ _ _ _ _ _ _ _).mono ?_
    rintro e w4 ⟨rfl, hg⟩
    have HG4 := Lib.hid (grownBy_trans HG3.out hg)
    clear hg d0 d1 d2 d3 y0 y1 y2 y3
    rw [noF_is]
    go_wp2_with fail
    go_ret
    exact ⟨rfl, gr_alloc HG4.out _⟩
/-- Where an offset lies, of m bytes of numbers of width x. -/
def nrm (m x off : Int) : Int := if off = m then m else off % x
theorem normal_ar (n : Nat) (k m off : Int) (b c : Nat) (hk : numK k = true) (h0 : 0 ≤ off) (h1 : off ≤ 100000) (w : World) (hv : VarsK w) (hb : ArrAt w b k) :
    Calls Tryd.prog 11 #[.slice none 0 0, arV ((n : Int) + 1) b c, .int .i64 m, .int .i64 off] w fun e w' => e = .returned (.int .i64 (nrm m (widthK k) off)) ∧ w.grownBy w' none := by
  have hk6 : k ≠ 6 := by unfold numK at hk; simp at hk; omega
  by_cases he : off = m
  · subst he
    unfold nrm
    rw [if_pos rfl]
    exact normal_end _ _ _ _ _ _ _ _ _
  · unfold nrm
    rw [if_neg he]
    exact normal_gen 6 ((n : Int) + 1) ⟨#[]⟩ (some ⟨b, 0, none⟩) 1 c k m off hk he h0 h1 w hv (fun w' g => innermost_ar _ k b c hk6 w' (hb.gr g))
theorem normal_sc (k m off : Int) (hk : numK k = true) (h0 : 0 ≤ off) (h1 : off ≤ 100000) (w : World) (hv : VarsK w) :
    Calls Tryd.prog 11 #[.slice none 0 0, scV k, .int .i64 m, .int .i64 off] w fun e w' => e = .returned (.int .i64 (nrm m (widthK k) off)) ∧ w.grownBy w' none := by
  have hk6 : k ≠ 6 := by unfold numK at hk; simp at hk; omega
  by_cases he : off = m
  · subst he
    unfold nrm
    rw [if_pos rfl]
    exact normal_end _ _ _ _ _ _ _ _ _
  · unfold nrm
    rw [if_neg he]
    exact normal_gen k 0 ⟨#[]⟩ none 0 0 k m off hk he h0 h1 w hv (fun w' _ => innermost_sc k hk6 w')
theorem sizeOf_ar (r : Value) (n : Nat) (k : Int) (b c : Nat) (hk : numK k = true) (hn : widthK k * ((n : Int) + 1) ≤ 4096) (w : World) (hv : VarsK w) (hb : ArrAt w b k) :
    Calls Tryd.prog 10 #[r, arV ((n : Int) + 1) b c] w fun e w' => e = .returned (.tuple #[.int .i64 (widthK k * ((n : Int) + 1)), .int .i64 0]) ∧ w.grownBy w' none :=
  sizeOf_gen r 6 ((n : Int) + 1) ⟨#[]⟩ (some ⟨b, 0, none⟩) 1 c _ (widthK k) hn w (fun w' g => Size_ar r n k b c hk hn w' (hv.grown g) (hb.gr g))
set_option maxRecDepth 100000 in
set_option maxHeartbeats 4000000 in
theorem Norm_ar (n : Nat) (k off : Int) (b c : Nat) (hk : numK k = true) (hn : widthK k * ((n : Int) + 1) ≤ 4096) (h0 : 0 ≤ off) (h1 : off ≤ widthK k * ((n : Int) + 1)) (w : World) (hv : VarsK w) (hb : ArrAt w b k) :
    Calls Tryd.prog 5 #[.slice none 0 0, arV ((n : Int) + 1) b c, .int .i64 off] w fun e w' => e = .returned (.tuple #[.int .i64 (nrm (widthK k * ((n : Int) + 1)) (widthK k) off), .int .i64 0]) ∧ w.grownBy w' none := by
  have HS := Lib.hid (fun (w' : World) (g : w.grownBy w' none) => sizeOf_ar (.slice none 0 0) n k b c hk hn w' (hv.grown g) (hb.gr g))
  have HN := Lib.hid (fun (w' : World) (g : w.grownBy w' none) => normal_ar n k (widthK k * ((n : Int) + 1)) off b c hk h0 (by omega) w' (hv.grown g) (hb.gr g))
  generalize nrm (widthK k * ((n : Int) + 1)) (widthK k) off = v at *
  generalize widthK k * ((n : Int) + 1) = m at *
  have HB := Lib.hid (blk_new w (.cells #[.int .i64 6, .int .i64 ((n : Int) + 1), .string ⟨#[]⟩, .slice (some ⟨b, 0, none⟩) 1 c] 26))
  have g1 : decide (off < 0) = false := by simp; omega
  have g2 : decide (m < off) = false := by simp; omega
  clear hv hb hk hn
  unfold arV tV at *
  go_enter Tryd.func5, Tryd.ntmps5
  go_wp2_with fail
  refine (HS.out _ (by repeat (first | with_reducible exact grownBy_refl _ _ | with_reducible assumption | with_reducible refine World.grownBy.gr_drew ?_ | with_reducible refine World.grownBy.gr_set ?_ (by simp) _ | with_reducible refine gr_alloc ?_ _))).mono ?_
  rintro e w1 ⟨rfl, hg⟩
  obtain ⟨d0, d1, d2, d3, _⟩ := cells4_of ((hg.block _ (lt_of_heap HB.out) (by simp)).trans HB.out)
  have HG := Lib.hid (grownBy_trans (gr_alloc (grownBy_refl w none) _) hg)
  clear hg
  go_wp2_with fail
  refine (HN.out _ HG.out).mono ?_
  rintro e w2 ⟨rfl, hg⟩
  have HG2 := Lib.hid (grownBy_trans HG.out hg)
  clear hg d0 d1 d2 d3
  go_wp2_with fail
  refine bodyPost_ret (v := .tuple #[.int .i64 v, .int .i64 0]) (by simp [results, Tryd.results5, go_sem]) rfl ⟨rfl, HG2.out⟩

end Go.Proofs.YtjfbkogjgjmndaaDoor
