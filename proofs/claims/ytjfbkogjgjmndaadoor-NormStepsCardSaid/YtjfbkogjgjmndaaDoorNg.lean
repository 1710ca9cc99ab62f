/- norm: fieldAt where there are no fields. -/
import Derived.Test.YtjfbkogjgjmndaaDoorNf
namespace Go.Proofs.YtjfbkogjgjmndaaDoor
open Go.RowKit
open Go.Shelf
attribute [local go_sem] Oper.semAt_some
set_option maxRecDepth 100000 in
set_option maxHeartbeats 1000000 in
theorem backF_nil_in {α : Type} (F : Fence) (n : Nat) (hf : F.fn 27) (hro : F.round = none) (l Bs : Nat) (J : List α → World → Prop) (W : World) (hBs : W.cell? ⟨Bs, 0, none⟩ = some (.slice none 0 0)) (h0 : J [] W) :
    CallsIn F n Tryd.prog 27 #[.func (.yield l) #[] #[], .pointer (some ⟨Bs, 0, none⟩)] W fun e W' => (∃ v, e = .returned v) ∧ J [] W' := by
  refine callsIn_of_wp Tryd.func27 rfl hf ?_ hro
  simp only [Tryd.ntmps27, List.size_toArray, List.length_cons, List.length_nil, Nat.reduceAdd, Nat.reduceSub, Array.replicate_succ, Array.replicate_zero, List.push_toArray, List.append_toArray, List.nil_append, List.cons_append]
  gi_wp2
  gi_loopw [3] (fun i wr => i = .int .i64 (-1) ∧ J [] wr) (fun _ _ => 0)
  case atStart => exact ⟨rfl, h0⟩
  case round =>
    obtain ⟨rfl, hJs⟩ := hrel
    gi_wp2
    go_end0
    exact ⟨⟨_, rfl⟩, hJs⟩
set_option maxHeartbeats 1000000 in
theorem backwardF_in (F : Fence) (n : Nat) (hf : F.fn 21) (hro : F.round = none) (a : Option Addr) (len cap : Nat) (w : World) :
    CallsIn F n Tryd.prog 21 #[.slice a len cap] w fun e w' => e = .returned (.func (.func 27) #[] #[.pointer (some ⟨w.heap.size, 0, none⟩)]) ∧ w' = w.alloc (.cells #[.slice a len cap] 61) := by
  refine callsIn_of_wp Tryd.func21 rfl hf ?_ hro
  simp only [Tryd.ntmps21, List.size_toArray, List.length_cons, List.length_nil, Nat.reduceAdd, Nat.reduceSub, Array.replicate_succ, Array.replicate_zero, List.push_toArray, List.append_toArray, List.nil_append, List.cons_append]
  gi_wp2
  go_ret
  exact ⟨rfl, rfl⟩
theorem backwardF_none (F : Fence) (n : Nat) (hf : F.fn 27) (hro : F.round = none) (Bs : Nat) (w : World) (hc : w.cell? ⟨Bs, 0, none⟩ = some (.slice none 0 0)) :
    SeqStopsK F n Tryd.prog 27 #[.pointer (some ⟨Bs, 0, none⟩)] (fun x : Empty => x.elim) (KeepsOn fun g => g = Bs) (fun ys => ys = [])
      (fun _ => False) 0 w := fun l J Jx W hW _ _ hY h0 => by
  have hc' : W.cell? ⟨Bs, 0, none⟩ = some (.slice none 0 0) := (World.cell?_of_block (hW.block _ (World.block_lt_of_cell? w _ hc))).trans hc
  exact (backF_nil_in F n hf hro l Bs J W hc' h0).mono fun e W' ⟨he, hj⟩ => ⟨he, .inl ⟨_, rfl, hj⟩⟩
/-- A field that is none. -/
def noF : Value := .agg #[.string ⟨#[]⟩, .int .i64 0, .int .i64 0, .string ⟨#[]⟩, .slice none 0 0, .int .i64 0]
theorem cell6 {W : World} {b : Nat} {x0 x1 x2 x3 x4 x5 : Value} {t : TypeId} (h : W.heap[b]? = some (.cells #[x0, x1, x2, x3, x4, x5] t (0, 0))) :
    (W.cell? ⟨b, 0, none⟩ = some x0 ∧ W.cell? ⟨b, 1, none⟩ = some x1 ∧ W.cell? ⟨b, 2, none⟩ = some x2 ∧ W.cell? ⟨b, 3, none⟩ = some x3 ∧ W.cell? ⟨b, 4, none⟩ = some x4 ∧ W.cell? ⟨b, 5, none⟩ = some x5) ∧
    (W.frozen? ⟨b, 0, none⟩ = false ∧ W.frozen? ⟨b, 1, none⟩ = false ∧ W.frozen? ⟨b, 2, none⟩ = false ∧ W.frozen? ⟨b, 3, none⟩ = false ∧ W.frozen? ⟨b, 4, none⟩ = false ∧ W.frozen? ⟨b, 5, none⟩ = false) := by
  refine ⟨⟨?_, ?_, ?_, ?_, ?_, ?_⟩, ?_, ?_, ?_, ?_, ?_, ?_⟩ <;> simp [World.cell?, World.frozen?, h]
theorem set6 {w : World} {b t : Nat} {u0 u1 u2 u3 u4 u5 : Value} (h : w.heap[b]? = some (.cells #[u0, u1, u2, u3, u4, u5] t (0, 0))) (v0 v1 v2 v3 v4 v5 : Value) :
    ((((((w.setCell ⟨b, 0, none⟩ v0).setCell ⟨b, 1, none⟩ v1).setCell ⟨b, 2, none⟩ v2).setCell ⟨b, 3, none⟩ v3).setCell ⟨b, 4, none⟩ v4).setCell ⟨b, 5, none⟩ v5).heap[b]? = some (.cells #[v0, v1, v2, v3, v4, v5] t (0, 0)) := by
  simp [World.setCell, Array.getElem?_modify, h]
set_option maxRecDepth 100000 in
set_option maxHeartbeats 4000000 in
theorem fieldAt_none (tk tn : Int) (ts : ByteArray) (ta : Option Addr) (tl tc : Nat) (off : Int) (w : World) :
    Calls Tryd.prog 16 #[.slice none 0 0, .agg #[.int .i64 tk, .int .i64 tn, .string ts, .slice ta tl tc], .int .i64 off] w fun e w' => e = .returned (.tuple #[noF, .bool false]) ∧ w.grownBy w' none := by
  have hro : Fence.wide.round = none := rfl
  refine (callsIn_wide (n := 5)).1 ?_
  refine callsIn_of_wp_marks Tryd.func16 rfl trivial ?_ hro
  simp only [Tryd.ntmps16, List.size_toArray, List.length_cons, List.length_nil, Nat.reduceAdd, Nat.reduceSub, Array.replicate_succ, Array.replicate_zero, List.push_toArray, List.append_toArray, List.nil_append, List.cons_append]
  gi_wp2_with (refine ⟨trivial, ?_⟩; first | (gi_at_call 22; refine (callsIn_wide.2 (fieldsOf_none _ _ _ _ _ _ _)).mono ?_; rintro e w1 ⟨rfl, hg⟩; refine Hid.out ?_))
  refine Lib.hid ?_
  have e1 : ∀ a b c d e : Obj, (((((w.alloc a).alloc b).alloc c).alloc d).alloc e).heap.size = w.heap.size + 5 := fun a b c d e => by simp
  have b3 := blk_alloc (blk_new (((w.alloc (.cells #[.slice none 0 0] 37)).alloc (.cells #[.int .i64 tk, .int .i64 tn, .string ts, .slice ta tl tc] 26)).alloc (.cells #[.int .i64 off] 3)) (.cells #[.string ⟨#[]⟩, .int .i64 0, .int .i64 0, .string ⟨#[]⟩, .slice none 0 0, .int .i64 0] 51)) (.cells #[.bool false] 4)
  have b4 := blk_new ((((w.alloc (.cells #[.slice none 0 0] 37)).alloc (.cells #[.int .i64 tk, .int .i64 tn, .string ts, .slice ta tl tc] 26)).alloc (.cells #[.int .i64 off] 3)).alloc (.cells #[.string ⟨#[]⟩, .int .i64 0, .int .i64 0, .string ⟨#[]⟩, .slice none 0 0, .int .i64 0] 51)) (.cells #[.bool false] 4)
  have g0 : w.grownBy (((((w.alloc (.cells #[.slice none 0 0] 37)).alloc (.cells #[.int .i64 tk, .int .i64 tn, .string ts, .slice ta tl tc] 26)).alloc (.cells #[.int .i64 off] 3)).alloc (.cells #[.string ⟨#[]⟩, .int .i64 0, .int .i64 0, .string ⟨#[]⟩, .slice none 0 0, .int .i64 0] 51)).alloc (.cells #[.bool false] 4)) none := by repeat (first | with_reducible exact grownBy_refl _ _ | with_reducible assumption | with_reducible refine World.grownBy.gr_drew ?_ | with_reducible refine World.grownBy.gr_set ?_ (by simp) _ | with_reducible refine gr_alloc ?_ _)
  have e2 := e1 (.cells #[.slice none 0 0] 37) (.cells #[.int .i64 tk, .int .i64 tn, .string ts, .slice ta tl tc] 26) (.cells #[.int .i64 off] 3) (.cells #[.string ⟨#[]⟩, .int .i64 0, .int .i64 0, .string ⟨#[]⟩, .slice none 0 0, .int .i64 0] 51) (.cells #[.bool false] 4)
  simp only [World.size_alloc] at b3 b4
  generalize (((((w.alloc (.cells #[.slice none 0 0] 37)).alloc (.cells #[.int .i64 tk, .int .i64 tn, .string ts, .slice ta tl tc] 26)).alloc (.cells #[.int .i64 off] 3)).alloc (.cells #[.string ⟨#[]⟩, .int .i64 0, .int .i64 0, .string ⟨#[]⟩, .slice none 0 0, .int .i64 0] 51)).alloc (.cells #[.bool false] 4)) = wa at *
  have q3 := (hg.block _ (lt_of_heap b3) (by simp)).trans b3
  have q4 := (hg.block _ (lt_of_heap b4) (by simp)).trans b4
  have g1 := grownBy_trans g0 hg
  have hs1 := hg.size
  rw [e2] at hs1
  obtain ⟨B, hB⟩ : ∃ B, B = w.heap.size := ⟨_, rfl⟩
  rw [← hB] at q3 q4 hs1 ⊢
  clear e1 e2 b3 b4 g0 hg wa
  gi_wp2_with (refine ⟨trivial, ?_⟩; gi_at_call 21; refine (backwardF_in Fence.wide _ trivial rfl _ _ _ _).mono ?_; rintro e w2 ⟨rfl, rfl⟩)
  have hs0 : (w1.alloc (.cells #[.slice none 0 0] 61)).cell? ⟨w1.heap.size, 0, none⟩ = some (.slice none 0 0) := (cell1 (blk_new w1 (.cells #[.slice none 0 0] 61))).1
  have p3 := blk_alloc q3 (.cells #[.slice none 0 0] 61)
  have p4 := blk_alloc q4 (.cells #[.slice none 0 0] 61)
  have hBel : Below w.heap.size w (w1.alloc (.cells #[.slice none 0 0] 61)) := below_of_gr (gr_alloc g1 _)
  have hsz : B + 6 ≤ (w1.alloc (.cells #[.slice none 0 0] 61)).heap.size := by rw [World.size_alloc]; omega
  have hD : w1.heap.size < (w1.alloc (.cells #[.slice none 0 0] 61)).heap.size := by rw [World.size_alloc]; omega
  rw [← hB]
  generalize (w1.alloc (.cells #[.slice none 0 0] 61)) = W0 at *
  generalize w1.heap.size = D at *
  clear q3 q4 g1 hs1 w1
  refine wpIn_rangeFunc_ownG hro (by omega) (gf := 27) (lb := #[.pointer (some ⟨D, 0, none⟩)]) rfl trivial (enters_of Tryd.func27 (by kernel_rfl) rfl)
    (backwardF_none Fence.wide 4 trivial rfl D W0 hs0) KeepsOn.trans
    (fun W l o o' hl' _ _ _ => KeepsOn.putObj (fun e => by omega) o') (Below.refl _ _) (fun x => x.elim)
    (fun _ W => (W.heap[B + 3]? = some (.cells #[.string ⟨#[]⟩, .int .i64 0, .int .i64 0, .string ⟨#[]⟩, .slice none 0 0, .int .i64 0] 51 (0, 0)) ∧ W.heap[B + 4]? = some (.cells #[.bool false] 4 (0, 0))) ∧ Below w.heap.size w W)
    (fun _ _ _ => False)
    (OwnFrom.and (Own.from (fun s A C row hs hg hr => ⟨cells_own hs.1 hg hr, cells_own hs.2 hg hr⟩) _) (ownFrom_below (Nat.le_refl _) (by omega)))
    (fun _ _ _ _ _ hs _ _ => hs)
    ⟨⟨p3, p4⟩, hBel⟩
    (fun x => x.elim) ?assign ?body ?done ?stop
  case assign => intro l x; exact x.elim
  case body => intro l pre x; exact x.elim
  case stop =>
    rintro E c pre W _ h _ _
    exact h.elim
  case done =>
    rintro E ys W hE rfl ⟨⟨h3, h4⟩, hBel⟩ hK
    subst hB
    obtain ⟨⟨c0, c1, c2, c3, c4, c5⟩, f0, f1, f2, f3, f4, f5⟩ := cell6 h3
    obtain ⟨m4, n4⟩ := cell1 h4
    have H3 := Lib.hid h3
    have H4 := Lib.hid h4
    have HBel := Lib.hid hBel
    have HK := Lib.hid hK
    clear h3 h4 hBel hK hs0 p3 p4
    gi_wp2
    have h6 := set6 H3.out (.string ⟨#[]⟩) (.int .i64 0) (.int .i64 0) (.string ⟨#[]⟩) (.slice none 0 0) (.int .i64 0)
    have h7 := off1 h6 (c := w.heap.size + 4) (by omega) (.bool false)
    have h8 : ((((((W.setCell ⟨w.heap.size + 3, 0, none⟩ (.string ⟨#[]⟩)).setCell ⟨w.heap.size + 3, 1, none⟩ (.int .i64 0)).setCell ⟨w.heap.size + 3, 2, none⟩ (.int .i64 0)).setCell ⟨w.heap.size + 3, 3, none⟩ (.string ⟨#[]⟩)).setCell ⟨w.heap.size + 3, 4, none⟩ (.slice none 0 0)).setCell ⟨w.heap.size + 3, 5, none⟩ (.int .i64 0)).heap[w.heap.size + 4]? = some (.cells #[.bool false] 4 (0, 0)) := by
      have h9 : ∀ (V : World) (j : Nat) (v : Value), (V.setCell ⟨w.heap.size + 3, j, none⟩ v).heap[w.heap.size + 4]? = V.heap[w.heap.size + 4]? := fun V j v => Below.heap_setCell _ _ _ _ (by simp)
      rw [h9, h9, h9, h9, h9, h9]
      exact H4.out
    have h10 := set1 h8 (.bool false)
    have hK' : (((((((W.setCell ⟨w.heap.size + 3, 0, none⟩ (.string ⟨#[]⟩)).setCell ⟨w.heap.size + 3, 1, none⟩ (.int .i64 0)).setCell ⟨w.heap.size + 3, 2, none⟩ (.int .i64 0)).setCell ⟨w.heap.size + 3, 3, none⟩ (.string ⟨#[]⟩)).setCell ⟨w.heap.size + 3, 4, none⟩ (.slice none 0 0)).setCell ⟨w.heap.size + 3, 5, none⟩ (.int .i64 0)).setCell ⟨w.heap.size + 4, 0, none⟩ (.bool false)).heap[E]? = some (.deferred (some [])) := by
      have h9 : ∀ (V : World) (b j : Nat) (v : Value), b ≠ E → (V.setCell ⟨b, j, none⟩ v).heap[E]? = V.heap[E]? := fun V b j v hb => Below.heap_setCell _ _ _ _ (fun e => hb e.symm)
      rw [h9 _ _ _ _ (by omega), h9 _ _ _ _ (by omega), h9 _ _ _ _ (by omega), h9 _ _ _ _ (by omega), h9 _ _ _ _ (by omega), h9 _ _ _ _ (by omega), h9 _ _ _ _ (by omega)]
      exact HK.out
    have hB' : Below w.heap.size w (((((((W.setCell ⟨w.heap.size + 3, 0, none⟩ (.string ⟨#[]⟩)).setCell ⟨w.heap.size + 3, 1, none⟩ (.int .i64 0)).setCell ⟨w.heap.size + 3, 2, none⟩ (.int .i64 0)).setCell ⟨w.heap.size + 3, 3, none⟩ (.string ⟨#[]⟩)).setCell ⟨w.heap.size + 3, 4, none⟩ (.slice none 0 0)).setCell ⟨w.heap.size + 3, 5, none⟩ (.int .i64 0)).setCell ⟨w.heap.size + 4, 0, none⟩ (.bool false)) := by
      have h9 : ∀ (V : World) (b j : Nat) (v : Value), w.heap.size ≤ b → Below w.heap.size w V → Below w.heap.size w (V.setCell ⟨b, j, none⟩ v) := fun V b j v hb h => h.setCell (p := ⟨b, j, none⟩) hb v
      exact h9 _ _ _ _ (by omega) (h9 _ _ _ _ (by omega) (h9 _ _ _ _ (by omega) (h9 _ _ _ _ (by omega) (h9 _ _ _ _ (by omega) (h9 _ _ _ _ (by omega) (h9 _ _ _ _ (by omega) HBel.out))))))
    rw [show w.heap.size + 1 + 1 + 1 = w.heap.size + 3 from rfl, show w.heap.size + 3 + 1 = w.heap.size + 4 from rfl]
    generalize (((((((W.setCell ⟨w.heap.size + 3, 0, none⟩ (.string ⟨#[]⟩)).setCell ⟨w.heap.size + 3, 1, none⟩ (.int .i64 0)).setCell ⟨w.heap.size + 3, 2, none⟩ (.int .i64 0)).setCell ⟨w.heap.size + 3, 3, none⟩ (.string ⟨#[]⟩)).setCell ⟨w.heap.size + 3, 4, none⟩ (.slice none 0 0)).setCell ⟨w.heap.size + 3, 5, none⟩ (.int .i64 0)).setCell ⟨w.heap.size + 4, 0, none⟩ (.bool false)) = W4 at *
    have kept : ∀ {g : Nat} {c : Array Value} {t : TypeId} {fr : Nat × Nat}, W4.heap[g]? = some (.cells c t fr) → (W4.putObj E (.deferred none)).heap[g]? = some (.cells c t fr) := fun h => cells_own h (grownBy_putObj' W4 E (.deferred none)) (fun r e => by cases e; exact ⟨_, hK', rfl⟩)
    refine ⟨by simp, .inl ⟨_, _, rfl, run_takeDeferred hK', ?_⟩⟩
    obtain ⟨⟨y0, y1, y2, y3, y4, y5⟩, _⟩ := cell6 (kept h7)
    obtain ⟨y6, _⟩ := cell1 (kept h10)
    have hgr := gr_of_below (hB'.trans (belowK_b (w := w) (Nat.le_refl _) W4 E _ (.deferred none) (by omega) hK' rfl rfl))
    refine ⟨.tuple #[noF, .bool false], by simp [results, Tryd.results16, go_sem, y0, y1, y2, y3, y4, y5, y6, noF], ⟨rfl, hgr⟩⟩

end Go.Proofs.YtjfbkogjgjmndaaDoor
