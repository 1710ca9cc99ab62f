/- What the second visits' loop keeps. -/
import Derived.Test.YtneehdjaaofjaaaEc
import Derived.Test.YtneehdjaaofjaaaEd
namespace Go.Proofs.Ytneehdjaaofjaaa
open Go.RowKit
open Go.Shelf
/-- Only the blocks r and l of what there was have turned. -/
structure Two (r l : Nat) (A B : World) : Prop where
  made ::
  os : B.os = A.os
  tape : B.tape = A.tape
  output : B.output = A.output
  size : A.heap.size ≤ B.heap.size
  block : ∀ k, k < A.heap.size → k ≠ r → k ≠ l → B.heap[k]? = A.heap[k]?
theorem Two.refl (r l : Nat) (A : World) : Two r l A A := ⟨rfl, rfl, rfl, Nat.le_refl _, fun _ _ _ _ => rfl⟩
theorem Two.then_ {r l : Nat} {A B C : World} {o : Option Nat} (h : Two r l A B) (g : B.grownBy C o) (ho : ∀ k, o = some k → k = r ∨ k = l ∨ A.heap.size ≤ k) : Two r l A C :=
  ⟨g.os.trans h.os, g.tape.trans h.tape, g.output.trans h.output, Nat.le_trans h.size g.size, fun k hk hr hl => (g.block k (Nat.lt_of_lt_of_le hk h.size) (fun e => by
    rcases ho k e.symm with h1 | h1 | h1
    · exact hr h1
    · exact hl h1
    · omega)).trans (h.block k hk hr hl)⟩
theorem Two.drew {r l : Nat} {A B : World} (h : Two r l A B) : Two r l A B.drew := ⟨h.os, h.tape, h.output, h.size, h.block⟩
theorem Two.below {r l B0 : Nat} {w A B : World} (h : Two r l A B) (k : Below B0 w A) (hr : B0 ≤ r) (hl : B0 ≤ l) (hB : B0 ≤ A.heap.size) : Below B0 w B :=
  ⟨h.os.trans k.os, h.tape.trans k.tape, h.output.trans k.output, Nat.le_trans k.size h.size, fun x hx => (h.block x (by omega) (by omega) (by omega)).trans (k.block x hx)⟩
theorem own_to {w w' : World} {base : Nat} {e : TypeId} {size n : Nat} {v : Value} {xs : List Value} (h : w.ownsRow base e size v n xs) (k : ∀ g, v.ownBlock = some g → w'.heap[g]? = w.heap[g]?) : w'.ownsRow base e size v n xs :=
  ⟨h.1, h.2.imp id fun ⟨g, cap, cur, e0, hg, hh, q⟩ => ⟨g, cap, cur, e0, hg, (k g (by rw [e0]; rfl)).trans hh, q⟩⟩
theorem MkAt.to {base r c : Nat} {W W' : World} {M : List Bool} (h : MkAt base W r c M) (k : W'.heap[r]? = W.heap[r]?) : MkAt base W' r c M := own_to h fun g e => by
  have e : r = g := by injection e
  subst e
  exact k
theorem OwN.to {base : Nat} {W W' : World} {v : Value} {l : List Int} (h : OwN base W v l) (k : ∀ g, v.ownBlock = some g → W'.heap[g]? = W.heap[g]?) : OwN base W' v l := own_to h k
structure GrI (w : World) (ps : List (Nat × Nat)) (N : Nat) (new : List Nat) (H : List (List Int)) (o r qv qg qf lb lx C : Nat) (K : List Bool) (Q : List Int) (pre : List (Nat × Nat)) (W : World) : Prop where
  made ::
  klen : K.length = N
  qlen : Q.length = N
  inv : pre = upto (backP new) pre.length → GInv ps N new (new.length - pre.length) K Q
  vst : VstP W (some ⟨o, 0, none⟩) N N H r qv qg qf fun k => lx < k ∧ k ≠ r ∧ k < C
  mks : MkAt lx W r N K
  gat : W.heap[C]? = some (.cells #[.func (.func 35) #[] #[.pointer (some ⟨qv, 0, none⟩), .pointer (some ⟨qg, 0, none⟩), .pointer (some ⟨qf, 0, none⟩)]] 52 (0, 0))
  box : W.heap[lx]? = some (.cells #[.slice (some ⟨lb, 0, none⟩) N N] 27 (0, 0))
  own : OwN lb W (.slice (some ⟨lb, 0, none⟩) N N) Q
  low : Below w.heap.size w W
  size : C + 2 ≤ W.heap.size
theorem GrI.to {w : World} {ps : List (Nat × Nat)} {N : Nat} {new : List Nat} {H : List (List Int)} {o r qv qg qf lb lx C : Nat} {K : List Bool} {Q : List Int} {pre : List (Nat × Nat)} {A B : World} (h : GrI w ps N new H o r qv qg qf lb lx C K Q pre A) (hb : Below (C + 2) A B) (h1 : lb < lx) (h2 : lx < r) (h3 : r < C) (h4 : w.heap.size ≤ C + 2) : GrI w ps N new H o r qv qg qf lb lx C K Q pre B :=
  ⟨h.klen, h.qlen, h.inv, h.vst.keep fun k hk _ => hb.block k (by omega), h.mks.to (hb.block r (by omega)), (hb.block C (by omega)).trans h.gat, (hb.block lx (by omega)).trans h.box, h.own.to (fun g e => by
    have e : lb = g := by injection e
    subst e
    exact hb.block _ (by omega)), h.low.trans (hb.mono h4), Nat.le_trans h.size hb.size⟩
theorem below_of_far {A B : World} {o : Option Nat} {n : Nat} (g : A.grownBy B o) (hn : n ≤ A.heap.size) (ho : ∀ k, o = some k → n ≤ k) : Below n A B :=
  ⟨g.os, g.tape, g.output, g.size, fun k hk => g.block k (by omega) (fun e => by have := ho k e.symm; omega)⟩
/-- One more round. -/
theorem GrI.next {w : World} {ps : List (Nat × Nat)} {N : Nat} {new : List Nat} {H : List (List Int)} {o r qv qg qf lb lx C c0 : Nat} {K K2 : List Bool} {Q Q2 : List Int} {pre : List (Nat × Nat)} {x : Nat × Nat} {A B : World} {nw : List Nat}
    (h : GrI w ps N new H o r qv qg qf lb lx C K Q pre A) (t : Two r lb A B) (h1 : lb < lx) (h2 : lx < r) (h3 : r < C) (h4 : w.heap.size ≤ lb)
    (hn : new.Nodup) (hlate : Late ps (List.replicate N false) new) (hall : ∀ x y, x ∈ new → Lds ps y x → y ∈ new) (hnN : ∀ x ∈ new, x < N) (hpl : pre.length < new.length)
    (hv : Vis (rvp ps) K (x.2 % N) nw K2) (hm : MkAt lx B r N K2) (ho : OwN lb B (.slice (some ⟨lb, 0, none⟩) N N) Q2) (hq : Q2.length = N)
    (hc : nw ≠ [] → c0 ∈ nw ∧ ∀ u ∈ nw, c0 ≤ u) (q1 : ∀ b ∈ nw, Q2[b]? = some (c0 : Int)) (q2 : ∀ b, b ∉ nw → Q2[b]? = Q[b]?) : GrI w ps N new H o r qv qg qf lb lx C K2 Q2 (pre ++ [x]) B := by
  have hs := h.size
  refine ⟨hv.seg.len.trans h.klen, hq, fun hp => ?_, h.vst.keep fun k hk hl => t.block k hl (by omega) (by omega), hm, (t.block C (by omega) (by omega) (by omega)).trans h.gat, (t.block lx (by omega) (by omega) (by omega)).trans h.box, ho, t.below h.low (by omega) (by omega) (by omega), Nat.le_trans hs t.size⟩
  rw [List.length_append, List.length_singleton, upto_succ] at hp
  have hl : pre.length = (upto (backP new) pre.length).length := (upto_length _ _).symm
  obtain ⟨e1, e2⟩ := List.append_inj hp hl
  have hx : x = backP new pre.length := by simpa using e2
  obtain ⟨m, hm'⟩ : ∃ m, pre.length + m + 1 = new.length := ⟨new.length - pre.length - 1, by omega⟩
  rw [backP_at new hm'] at hx
  have hml : m < new.length := by omega
  have hi : new[m]? = some new[m] := List.getElem?_eq_getElem hml
  rw [hi] at hx
  have hx2 : x.2 = new[m] := by rw [hx]; rfl
  have hxm : x.2 % N = new[m] := by rw [hx2]; exact Nat.mod_eq_of_lt (hnN _ (List.getElem_mem hml))
  rw [hxm] at hv
  have hg := h.inv e1
  rw [show new.length - pre.length = m + 1 by omega] at hg
  have := hg.next hn hlate hall hi hv hq hc q1 q2
  rw [List.length_append, List.length_singleton, show new.length - (pre.length + 1) = m by omega]
  exact this

theorem intsV_set (l : List Int) (i : Nat) (x : Int) : intsV (l.set i x) = (intsV l).set i (.int .i64 x) := by unfold intsV; rw [List.map_set]
theorem OwN.set {base b n c : Nat} {W : World} {l : List Int} (h : OwN base W (.slice (some ⟨b, 0, none⟩) n c) l) (hn : n = l.length) (i : Nat) (x : Int) :
    OwN base (W.setCell ⟨b, i, none⟩ (.int .i64 x)) (.slice (some ⟨b, 0, none⟩) n c) (l.set i x) ∧ W.grownBy (W.setCell ⟨b, i, none⟩ (.int .i64 x)) (some b) := by
  subst hn
  obtain ⟨h1, h2⟩ := World.ownsRow.stored h i (.int .i64 x)
  refine ⟨?_, h2⟩
  unfold OwN
  rw [List.length_set, intsV_set]
  exact h1
theorem OwN.cell {base b n c : Nat} {W : World} {l : List Int} (h : OwN base W (.slice (some ⟨b, 0, none⟩) n c) l) (hn : n = l.length) {i : Nat} {x : Int} (hi : l[i]? = some x) : W.cell? ⟨b, i, none⟩ = some (.int .i64 x) := by
  subst hn
  have hl := (List.getElem?_eq_some_iff.1 hi).1
  rw [World.ownsRow.cellAt h i (by omega)]
  unfold intsV
  rw [List.getElem?_map, hi]
  rfl
theorem OwN.fr {base b n c : Nat} {W : World} {l : List Int} (h : OwN base W (.slice (some ⟨b, 0, none⟩) n c) l) (hn : n = l.length) (i : Nat) : W.frozen? ⟨b, i, none⟩ = false := by
  subst hn
  exact World.ownsRow.frozenAt h i
/-- A sorted component, and its least. -/
theorem sort_least (nw : List Nat) (hn : nw.Nodup) : ∃ c0 : Nat, (nw ≠ [] → ((nI nw).mergeSort fun x y => decide (x ≤ y))[0]? = some (c0 : Int) ∧ c0 ∈ nw ∧ ∀ u ∈ nw, c0 ≤ u) := by
  obtain ⟨h1, h2⟩ := sort_rise hn
  generalize ((nI nw).mergeSort fun x y => decide (x ≤ y)) = S at *
  by_cases he : nw = []
  · exact ⟨0, fun h => absurd he h⟩
  · cases S with
    | nil =>
      cases nw with
      | nil => exact absurd rfl he
      | cons a r => exact absurd ((h2 a).2 (by simp [nI])) (by simp)
    | cons s r =>
      have hs : s ∈ nI nw := (h2 s).1 (by simp)
      unfold nI at hs
      obtain ⟨c0, hc, rfl⟩ := List.mem_map.1 hs
      refine ⟨c0, fun _ => ⟨rfl, hc, fun u hu => ?_⟩⟩
      have hu' := (h2 (u : Int)).2 (nI_mem.2 hu)
      rcases List.mem_cons.1 hu' with e | e
      · omega
      · have := (List.pairwise_cons.1 h1).1 _ e
        omega

end Go.Proofs.Ytneehdjaaofjaaa
