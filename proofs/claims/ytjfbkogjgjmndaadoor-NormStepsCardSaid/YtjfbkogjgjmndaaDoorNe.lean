/- layout: Size at a number's type and at an array of one; norm: sizeOf, innermost, inElement, fieldsOf. -/
import Derived.Test.YtjfbkogjgjmndaaDoorNd
namespace Go.Proofs.YtjfbkogjgjmndaaDoor
open Go.RowKit
set_option maxRecDepth 100000 in
set_option maxHeartbeats 4000000 in
theorem Size_sc (r : Value) (k : Int) (hk : numK k = true) (w : World) (hv : VarsK w) :
    Calls Tryd.prog 13 #[r, scV k] w fun e w' => e = .returned (.tuple #[.int .i64 (widthK k), .int .i64 (widthK k), .int .i64 0]) ∧ w.grownBy w' none := by
  have hk6 : k ≠ 6 := by unfold numK at hk; simp at hk; omega
  obtain ⟨h0, h8⟩ := wid_le k
  have h := Size_gen r k 0 ⟨#[]⟩ none 0 0 k 0 ⟨#[]⟩ none 0 0 [] (widthK k) (widthK k) w h0 (by simp [prodN]; omega) (by simp)
    (fun w' _ => (elements_sc k hk6 w').mono fun e w'' ⟨a, b⟩ => ⟨⟨_, a, .inl ⟨rfl, rfl⟩⟩, b⟩)
    (fun w' g => single_sc r k hk w' (hv.grown g))
  rw [show widthK k * ((prodN [] : Nat) : Int) = widthK k by simp [prodN]] at h
  exact h
theorem OneI.ints {B : Nat} {W : World} {v : Value} {n : Nat} (h : OneI B W v ((n : Int) + 1)) : IntsP (fun g => g < W.heap.size) W v [n] := by
  rcases h.2 with ⟨h0, h1⟩ | ⟨g, cap, cur, rfl, hb, hh, hn, hc, hs, ht⟩
  · cases h1
  · refine .inr ⟨g, cap, rfl, lt_of_heap hh, fun j hj => ?_⟩
    obtain rfl : j = 0 := by simp at hj; omega
    rw [cell_of_row _ _ _ _ _ _ hh, ← Array.getElem?_toList]
    have h3 : (cur.toList.take (1 * 1))[0]? = some (.int .i64 ((n : Int) + 1)) := by rw [ht]; rfl
    rw [List.getElem?_take] at h3
    simpa using h3
set_option maxRecDepth 100000 in
set_option maxHeartbeats 4000000 in
theorem Size_ar (r : Value) (n : Nat) (k : Int) (b c : Nat) (hk : numK k = true) (hn : widthK k * ((n : Int) + 1) ≤ 4096) (w : World) (hv : VarsK w) (hb : ArrAt w b k) :
    Calls Tryd.prog 13 #[r, arV ((n : Int) + 1) b c] w fun e w' => e = .returned (.tuple #[.int .i64 (widthK k * ((n : Int) + 1)), .int .i64 (widthK k), .int .i64 0]) ∧ w.grownBy w' none := by
  have hk6 : k ≠ 6 := by unfold numK at hk; simp at hk; omega
  obtain ⟨h0, h8⟩ := wid_le k
  have e : ((prodN [n] : Nat) : Int) = (n : Int) + 1 := by simp [prodN]
  have h := Size_gen r 6 ((n : Int) + 1) ⟨#[]⟩ (some ⟨b, 0, none⟩) 1 c k 0 ⟨#[]⟩ none 0 0 [n] (widthK k) (widthK k) w h0 (by rw [e]; exact hn) (by simp)
    (fun w' g => (elements_ar ((n : Int) + 1) k b c hk6 (by omega) w' (hb.gr g)).mono fun e w'' ⟨⟨v, a, o⟩, q⟩ => ⟨⟨v, a, o.ints⟩, q⟩)
    (fun w' g => single_sc r k hk w' (hv.grown g))
  rw [e] at h
  exact h
set_option maxRecDepth 100000 in
set_option maxHeartbeats 4000000 in
theorem sizeOf_gen (r : Value) (tk tn : Int) (ts : ByteArray) (ta : Option Addr) (tl tc : Nat) (n al : Int) (hn : n ≤ 4096) (w : World)
    (h : ∀ w', w.grownBy w' none → Calls Tryd.prog 13 #[r, .agg #[.int .i64 tk, .int .i64 tn, .string ts, .slice ta tl tc]] w' fun e w'' => e = .returned (.tuple #[.int .i64 n, .int .i64 al, .int .i64 0]) ∧ w'.grownBy w'' none) :
    Calls Tryd.prog 10 #[r, .agg #[.int .i64 tk, .int .i64 tn, .string ts, .slice ta tl tc]] w fun e w' => e = .returned (.tuple #[.int .i64 n, .int .i64 0]) ∧ w.grownBy w' none := by
  have H := Lib.hid h
  clear h
  go_enter Tryd.func10, Tryd.ntmps10
  go_wp2_with fail
  refine (H.out _ (by repeat (first | with_reducible exact grownBy_refl _ _ | with_reducible assumption | with_reducible refine World.grownBy.gr_drew ?_ | with_reducible refine World.grownBy.gr_set ?_ (by simp) _ | with_reducible refine gr_alloc ?_ _))).mono ?_
  rintro e w1 ⟨rfl, hg⟩
  have HG := Lib.hid (grownBy_trans (gr_alloc (grownBy_refl w none) _) hg)
  clear hg
  go_wp2_with fail
  refine bodyPost_ret (v := .tuple #[.int .i64 n, .int .i64 0]) (by simp [results, Tryd.results10, go_sem]) rfl ⟨rfl, HG.out⟩
set_option maxRecDepth 100000 in
set_option maxHeartbeats 4000000 in
theorem inElement_gen (r : Value) (tk tn : Int) (ts : ByteArray) (ta : Option Addr) (tl tc : Nat) (n al off : Int) (hn : 1 ≤ n) (hn8 : n ≤ 4096) (h0 : 0 ≤ off) (h1 : off ≤ 100000) (w : World)
    (h : ∀ w', w.grownBy w' none → Calls Tryd.prog 13 #[r, .agg #[.int .i64 tk, .int .i64 tn, .string ts, .slice ta tl tc]] w' fun e w'' => e = .returned (.tuple #[.int .i64 n, .int .i64 al, .int .i64 0]) ∧ w'.grownBy w'' none) :
    Calls Tryd.prog 15 #[r, .agg #[.int .i64 tk, .int .i64 tn, .string ts, .slice ta tl tc], .int .i64 off] w fun e w' => e = .returned (.int .i64 (off % n)) ∧ w.grownBy w' none := by
  have H := Lib.hid h
  clear h
  have hw : IntKind.i64.wrap (Int.tmod off n) = off % n := by
    rw [Int.tmod_eq_emod_of_nonneg h0, IntKind.wrap_i64]
    have h2 := Int.emod_nonneg off (show n ≠ 0 by omega)
    have h3 := Int.emod_lt_of_pos off (show 0 < n by omega)
    omega
  have hn0 : ¬ n = 0 := by omega
  go_enter Tryd.func15, Tryd.ntmps15
  go_wp2_with fail
  refine (H.out _ (by repeat (first | with_reducible exact grownBy_refl _ _ | with_reducible assumption | with_reducible refine World.grownBy.gr_drew ?_ | with_reducible refine World.grownBy.gr_set ?_ (by simp) _ | with_reducible refine gr_alloc ?_ _))).mono ?_
  rintro e w1 ⟨rfl, hg⟩
  have HG := Lib.hid (grownBy_trans (gr_alloc (grownBy_refl w none) _) hg)
  clear hg
  go_wp2_with fail
  go_ret
  exact ⟨rfl, HG.out⟩

end Go.Proofs.YtjfbkogjgjmndaaDoor
