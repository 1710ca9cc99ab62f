/- Rows of edges of the call's own. -/
import Derived.Test.YtneehdjaaofjaaaW0
import Derived.Test.YtneehdjaaofjaaaZf
import Derived.Deep.RegionHeld3
namespace Go.Proofs.Ytneehdjaaofjaaa
open Go.RowKit
theorem edC_size (e : Edg) : (edC e).size = 3 := rfl
theorem edC_one (e : Edg) : ∀ u ∈ (edC e).toList, u.oneCell' = true := by
  intro u hu
  simp [edC] at hu
  rcases hu with rfl | rfl | rfl <;> rfl
theorem infoEdg : (Try.prog.info? 33).map (fun i => (i.zero, i.size, i.bytes)) = some (some (.agg #[.int .i64 0, .int .i64 0, .int .i64 0]), 3, 24) := by kernel_rfl
/-- Edges of the call's own: a slice v of n edges. -/
def OwE (base : Nat) (W : World) (v : Value) (E : List Edg) : Prop := W.ownsRow base 33 3 v E.length (flatC edC E)
theorem OwE.nil (base : Nat) (W : World) : OwE base W (.slice none 0 0) [] := own_nil _ _ _ _
theorem OwE.gr {base : Nat} {W W' : World} {v : Value} {E : List Edg} (h : OwE base W v E) (g : W.grownBy W' none) : OwE base W' v E := own_gr h g
theorem OwE.eds {base : Nat} {W : World} {v : Value} {E : List Edg} (h : OwE base W v E) : ∃ A c, v = .slice A E.length c ∧ E.length ≤ c ∧ EdsAt W A E := by
  obtain ⟨ad, c, rfl, ⟨_, hc⟩, _⟩ := own_form h
  refine ⟨ad, c, rfl, hc, ?_⟩
  rcases Nat.eq_zero_or_pos E.length with h0 | h0
  · exact .inl (List.length_eq_zero_iff.1 h0)
  · obtain ⟨g, c', e, _, _⟩ := own_some h h0
    injection e with e1 e2 e3
    subst e1
    exact StrAt.of_own edC_size h
/-- Edges more. -/
theorem app_eds {w : World} {ops : Array Oper} {rest : List Oper} {o : Oper} {a : Act} {Q : Exit → Act → World → Prop} (hgd : o.guard = none) (s x : Operand)
    (ho : o.op = .call { callee := .builtin .append, args := #[s, x], argTypes := #[22, 22] })
    (base : Nat) (v : Value) (E D : List Edg) (hs : a.eval s = v) (hown : OwE base w v E) (A : Option Addr) (c : Nat)
    (hx : a.eval x = .slice A D.length c) (hD : EdsAt w A D) (hc : A = none → c = 0) (hn : E.length + D.length ≤ 100000000000) (hbase : base ≤ w.heap.size)
    (h : ∀ v' w', OwE base w' v' (E ++ D) → w.grownBy w' v.ownBlock → wpList Try.prog ops Q rest (a.put o.dst v') w') : wpList Try.prog ops Q (o :: rest) a w := by
  obtain ⟨i0, hi, hz0, hz1, hz2⟩ := info_parts infoEdg
  rcases A with _ | ad
  · have hD0 : D = [] := by
      rcases hD with h0 | ⟨ad, e, _⟩
      · exact h0
      · cases e
    subst hD0
    rw [hc rfl] at hx
    refine wpList_append_own_none hgd s x 22 ho base 33 i0 3 Try.underlying22 hi v E.length (flatC edC E) hs hown hx (h v w (by rw [List.append_nil]; exact hown) (grownBy_refl w _))
  · refine wpList_append_own w hgd s x 22 ho base 33 i0 _ 3 24 Try.underlying22 hi hz0 hz1 hz2 rfl (by decide) v E.length (flatC edC E) hs hown ad D.length c (flatC edC D) hx (flat_len edC_size D) (StrAt.flat edC_size hD) (flat_one edC_one D) ?_ ?_ hbase fun v' w' h2 h3 _ => h v' w' ?_ h3
    · unfold maxLen; omega
    · omega
    · unfold OwE
      rw [flat_app, List.length_append]
      exact h2
theorem step_app_eds {w : World} {ops : Array Oper} {o : Oper} {a : Act} {K : Act → World → Prop} {Q : Exit → Act → World → Prop} {E' : Prop} (hgd : o.guard = none) (s x : Operand)
    (ho : o.op = .call { callee := .builtin .append, args := #[s, x], argTypes := #[22, 22] })
    (base : Nat) (v : Value) (E D : List Edg) (hs : a.eval s = v) (hown : OwE base w v E) (A : Option Addr) (c : Nat)
    (hx : a.eval x = .slice A D.length c) (hD : EdsAt w A D) (hc : A = none → c = 0) (hn : E.length + D.length ≤ 100000000000) (hbase : base ≤ w.heap.size)
    (h : ∀ v' w', OwE base w' v' (E ++ D) → w.grownBy w' v.ownBlock → K (a.put o.dst v') w') : if Region.wanted o (yielded ops a.tmps) = true then Oper.wp Try.prog o a w K Q else E' := by
  have hw : Region.wanted o (yielded ops a.tmps) = true := by simp [Region.wanted, hgd]
  rw [if_pos hw]
  obtain ⟨i0, hi, hz0, hz1, hz2⟩ := info_parts infoEdg
  rcases A with _ | ad
  · have hD0 : D = [] := by
      rcases hD with h0 | ⟨ad, e, _⟩
      · exact h0
      · cases e
    subst hD0
    rw [hc rfl] at hx
    have hrun := run_append_owned_none (P := Try.prog) (w := w) base 22 o.type 33 i0 3 Try.underlying22 hi v E.length (flatC edC E) hown
    unfold Oper.wp
    simp [execOp, ho, resolve, invoke, builtin, hs, hx, hrun, Result.andThen]
    exact h v w (by rw [List.append_nil]; exact hown) (grownBy_refl w _)
  · refine wp_append_own w s x 22 ho base 33 i0 _ 3 24 Try.underlying22 hi hz0 hz1 hz2 rfl (by decide) v E.length (flatC edC E) hs hown ad D.length c (flatC edC D) hx (flat_len edC_size D) (StrAt.flat edC_size hD) (flat_one edC_one D) ?_ ?_ hbase fun v' w' h2 h3 _ => h v' w' ?_ h3
    · unfold maxLen; omega
    · omega
    · unfold OwE
      rw [flat_app, List.length_append]
      exact h2
theorem eds_drop {w : World} {ad : Addr} {E : List Edg} {k cA : Nat} (h : EdsAt w (some ad) E) (hc : E.length ≤ cA) (hk : k ≤ E.length) :
    ∃ sa, (if cA = k then some ad else some (ad.add (k * 3))) = some sa ∧ ∀ W, w.grownBy W none → EdsAt W (some sa) (E.drop k) := by
  by_cases e : cA = k
  · refine ⟨ad, if_pos e, fun W _ => .inl (List.length_eq_zero_iff.1 (by rw [List.length_drop]; omega))⟩
  · refine ⟨ad.add (k * 3), if_neg e, fun W g => ?_⟩
    rcases h.keep g with h0 | ⟨ad', e', hcl⟩
    · exact .inl (by rw [h0]; simp)
    · injection e' with e'
      subst e'
      refine .inr ⟨_, rfl, fun j x hx i u hu => ?_⟩
      rw [List.getElem?_drop] at hx
      rw [Addr.add_add, show k * 3 + (j * 3 + i) = (k + j) * 3 + i by omega]
      exact hcl _ _ hx _ _ hu
theorem one_ed (w : World) (e : Edg) (t : TypeId) : EdsAt (w.alloc (.cells (edC e) t)) (some ⟨w.heap.size, 0, none⟩) [e] := by
  refine .inr ⟨_, rfl, fun j x hx k u hu => ?_⟩
  have hj : j < 1 := (List.getElem?_eq_some_iff.1 hx).1
  obtain rfl : j = 0 := by omega
  simp at hx
  subst hx
  rw [add_none, cell_of_row _ _ _ _ _ _ (heap_alloc_new w _)]
  rw [show 0 + (0 * 3 + k) = k by omega]
  exact hu
/-- An empty row of the call's own, wherever it was made. -/
theorem own_empty_at {base : Nat} {X W : World} (hb : base ≤ X.heap.size) (g : (X.alloc (.cells #[] 33)).grownBy W none) : OwE base W (.slice (some ⟨X.heap.size, 0, none⟩) 0 0) [] :=
  (show OwE base (X.alloc (.cells #[] 33)) (.slice (some ⟨X.heap.size, 0, none⟩) 0 0) [] from
    ⟨rfl, .inr ⟨X.heap.size, 0, #[], rfl, hb, heap_alloc_new X (.cells #[] 33), Nat.le_refl _, by unfold maxLen; omega, rfl, rfl⟩⟩).gr g
theorem eds_row {k : Nat} {w w' : World} {e : Edg} {r : Option Nat} (h : EdsAt w (some ⟨k, 0, none⟩) [e]) (g : w.grownBy w' r) (hr : r ≠ some k) : EdsAt w' (some ⟨k, 0, none⟩) [e] := by
  rcases h with h0 | ⟨ad, e', hc⟩
  · cases h0
  · injection e' with e'
    subst e'
    refine .inr ⟨_, rfl, fun j x hx i u hu => ?_⟩
    have h1 := hc j x hx i u hu
    have hb : (Addr.add ⟨k, 0, none⟩ (j * 3 + i)).block = k := add_block _ _
    exact (World.cell?_of_block (g.block _ (World.block_lt_of_cell? w _ h1) (by rw [hb]; exact fun e => hr e.symm))).trans h1
theorem box3 {W : World} {b : Nat} {fr pc tt : Int} {t : TypeId} {fz : Nat × Nat} (h : W.heap[b]? = some (.cells (edC ⟨fr, pc, tt⟩) t fz)) : W.cell? ⟨b, 0, none⟩ = some (.int .i64 fr) ∧ W.cell? ⟨b, 1, none⟩ = some (.int .i64 pc) ∧ W.cell? ⟨b, 2, none⟩ = some (.int .i64 tt) := by
  refine ⟨?_, ?_, ?_⟩
  · rw [cell_of_row _ _ _ _ _ _ h]; rfl
  · rw [cell_of_row _ _ _ _ _ _ h]; rfl
  · rw [cell_of_row _ _ _ _ _ _ h]; rfl
theorem own_empty_b {base g : Nat} {W : World} (hb : base ≤ g) (hh : W.heap[g]? = some (.cells #[] 33 (0, 0))) : OwE base W (.slice (some ⟨g, 0, none⟩) 0 0) [] :=
  ⟨rfl, .inr ⟨g, 0, #[], rfl, hb, hh, Nat.le_refl _, by unfold maxLen; omega, rfl, rfl⟩⟩
theorem one_ed_b {W : World} {k : Nat} {e : Edg} {t : TypeId} {fz : Nat × Nat} (h : W.heap[k]? = some (.cells (edC e) t fz)) : EdsAt W (some ⟨k, 0, none⟩) [e] := by
  refine .inr ⟨_, rfl, fun j x hx i u hu => ?_⟩
  have hj : j < 1 := (List.getElem?_eq_some_iff.1 hx).1
  obtain rfl : j = 0 := by omega
  simp at hx
  subst hx
  rw [add_none, cell_of_row _ _ _ _ _ _ h]
  rw [show 0 + (0 * 3 + i) = i by omega]
  exact hu
theorem OwE.ne {base b : Nat} {W : World} {v : Value} {l : List Edg} {cs : Array Value} {t : TypeId} {fz : Nat × Nat} (h : OwE base W v l) (hb : W.heap[b]? = some (.cells cs t fz)) (ht : t ≠ 33) : some b ≠ v.ownBlock := by
  intro e
  rcases h.2 with ⟨rfl, _⟩ | ⟨g, cap, cur, rfl, _, hg, _⟩
  · cases e
  · injection e with e
    have e : b = g := e
    subst e
    rw [hb] at hg
    injection hg with hg
    injection hg with _ h2 _
    exact ht h2
theorem alloc_keep {W : World} {k : Nat} {o x : Obj} (h : W.heap[k]? = some x) : (W.alloc o).heap[k]? = some x := by
  rw [heap_alloc_old _ _ (Array.getElem?_eq_some_iff.1 h).1]
  exact h
theorem alloc_at {W : World} {k : Nat} {o : Obj} (h : k = W.heap.size) : (W.alloc o).heap[k]? = some o := by
  subst h
  exact heap_alloc_new W o
theorem gr_keep {W W' : World} {r : Option Nat} {k : Nat} {x : Obj} (g : W.grownBy W' r) (h : W.heap[k]? = some x) (hk : some k ≠ r) : W'.heap[k]? = some x := (g.block k (Array.getElem?_eq_some_iff.1 h).1 hk).trans h
theorem cutp {P Q : Prop} (h : P) (k : P → Q) : Q := k h
theorem sol8 {W : World} {b : Nat} {x y z u : Value} {t : TypeId} (h : W.heap[b]? = some (.cells #[x, y, z, u] t (0, 0))) :
    (W.cell? ⟨b, 0, none⟩ = some x ∧ W.cell? ⟨b, 1, none⟩ = some y ∧ W.cell? ⟨b, 2, none⟩ = some z ∧ W.cell? ⟨b, 3, none⟩ = some u) ∧ W.frozen? ⟨b, 0, none⟩ = false ∧ W.frozen? ⟨b, 1, none⟩ = false ∧ W.frozen? ⟨b, 2, none⟩ = false ∧ W.frozen? ⟨b, 3, none⟩ = false := by
  simp [World.cell?, World.frozen?, h]
/-- What stands at k, in a world of which some steps are written out. -/
theorem sol_four {w : World} {b : Nat} {x y z u p q r s : Value} {t : TypeId} (h : w.heap[b]? = some (.cells #[x, y, z, u] t (0, 0))) :
    ((((w.setCell ⟨b, 0, none⟩ p).setCell ⟨b, 1, none⟩ q).setCell ⟨b, 2, none⟩ r).setCell ⟨b, 3, none⟩ s).heap[b]? = some (.cells #[p, q, r, s] t (0, 0)) := by
  rw [heap_setCell_same _ _ _ _ _ _ (heap_setCell_same _ _ _ _ _ _ (heap_setCell_same _ _ _ _ _ _ (heap_setCell_same _ _ _ _ _ _ h)))]
  rfl
theorem OwE.to {base : Nat} {W W' : World} {v : Value} {F : List Edg} (h : OwE base W v F) (k : ∀ g, v.ownBlock = some g → W'.heap[g]? = W.heap[g]?) : OwE base W' v F := by
  rcases h.2 with ⟨rfl, h2⟩ | ⟨g, cap, cur, rfl, hb, hg, h2⟩
  · exact ⟨h.1, .inl ⟨rfl, h2⟩⟩
  · exact ⟨h.1, .inr ⟨g, cap, cur, rfl, hb, (k g rfl).trans hg, h2⟩⟩
/-- A box of four cells is stored into: what it holds then, and the row beside it. -/
theorem sol_stored {base b : Nat} {W0 w : World} {x y z u p q r s : Value} {t : TypeId} {A : Option Addr} {c : Nat} {F : List Edg} (ho : OwE base w (.slice A F.length c) F) (hb : w.heap[b]? = some (.cells #[x, y, z, u] t (0, 0))) (ht : t ≠ 33) (hg : W0.grownBy w none) (h0 : W0.heap.size ≤ b) :
    ((((w.setCell ⟨b, 0, none⟩ p).setCell ⟨b, 1, none⟩ q).setCell ⟨b, 2, none⟩ r).setCell ⟨b, 3, none⟩ s).heap[b]? = some (.cells #[p, q, r, s] t (0, 0)) ∧
    EdsAt ((((w.setCell ⟨b, 0, none⟩ p).setCell ⟨b, 1, none⟩ q).setCell ⟨b, 2, none⟩ r).setCell ⟨b, 3, none⟩ s) A F ∧
    W0.grownBy ((((w.setCell ⟨b, 0, none⟩ p).setCell ⟨b, 1, none⟩ q).setCell ⟨b, 2, none⟩ r).setCell ⟨b, 3, none⟩ s) none := by
  refine ⟨sol_four hb, ?_, (((hg.gr_set (p := ⟨b, 0, none⟩) h0 _).gr_set (p := ⟨b, 1, none⟩) h0 _).gr_set (p := ⟨b, 2, none⟩) h0 _).gr_set (p := ⟨b, 3, none⟩) h0 _⟩
  have hne := ho.ne hb ht
  obtain ⟨A', c', e, _, hE⟩ := OwE.eds (ho.to (W' := (((w.setCell ⟨b, 0, none⟩ p).setCell ⟨b, 1, none⟩ q).setCell ⟨b, 2, none⟩ r).setCell ⟨b, 3, none⟩ s) fun g hgb => by
    have hgb' : g ≠ b := fun e => hne (by rw [hgb, e])
    rw [heap_setCell_other _ _ _ _ hgb', heap_setCell_other _ _ _ _ hgb', heap_setCell_other _ _ _ _ hgb', heap_setCell_other _ _ _ _ hgb'])
  injection e with e1 _ _
  subst e1
  exact hE

end Go.Proofs.Ytneehdjaaofjaaa
