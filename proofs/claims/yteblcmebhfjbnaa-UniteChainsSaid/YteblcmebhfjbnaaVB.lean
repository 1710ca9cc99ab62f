/- How groups lie in memory: a block that holds a slice of the nodes' block, and how many groups there are. -/
import Derived.Test.YteblcmebhfjbnaaZf
import Derived.Test.YteblcmebhfjbnaaUa
namespace Go.Proofs.Yteblcmebhfjbnaa
open Go.RowKit
def ndC (x : Nd) : Array Value := #[.int .i64 (x.1 : Int), .int .i64 (x.2.1 : Int), .int .i64 (x.2.2 : Int)]
theorem ndC_size (x : Nd) : (ndC x).size = 3 := rfl
/-- The block b holds the nodes l. -/
def NdB (W : World) (b : Nat) (l : List Nd) : Prop := W.heap[b]? = some (.cells (flatC ndC l).toArray 45 (0, 0))
/-- The block m is the groups of the nodes in b. -/
def HdB (W : World) (m b n c : Nat) : Prop := W.heap[m]? = some (.cells #[.slice (some ⟨b, 0, none⟩) n n, .int .i64 (c : Int)] 43 (0, 0))
theorem NdB.cells {W : World} {b : Nat} {l : List Nd} (h : NdB W b l) {i : Nat} {x : Nd} (hx : l[i]? = some x) :
    W.cell? ⟨b, i * 3, none⟩ = some (.int .i64 (x.1 : Int)) ∧ W.cell? ⟨b, i * 3 + 1, none⟩ = some (.int .i64 (x.2.1 : Int)) ∧ W.cell? ⟨b, i * 3 + 2, none⟩ = some (.int .i64 (x.2.2 : Int)) := by
  have e : ∀ j, j < 3 → W.cell? ⟨b, i * 3 + j, none⟩ = (ndC x)[j]? := fun j hj => by
    rw [cell_of_row _ _ _ _ _ _ h, ← Array.getElem?_toList, List.toList_toArray, flat_at ndC_size _ _ _ hj, hx]
    rfl
  exact ⟨e 0 (by omega), e 1 (by omega), e 2 (by omega)⟩
theorem NdB.frz {W : World} {b : Nat} {l : List Nd} (h : NdB W b l) (j : Nat) : W.frozen? ⟨b, j, none⟩ = false := by
  unfold NdB at h
  simp [World.frozen?, h]
theorem HdB.cells {W : World} {m b n c : Nat} (h : HdB W m b n c) : W.cell? ⟨m, 0, none⟩ = some (.slice (some ⟨b, 0, none⟩) n n) ∧ W.cell? ⟨m, 1, none⟩ = some (.int .i64 (c : Int)) := by
  unfold HdB at h
  constructor <;> simp [World.cell?, h]
theorem HdB.frz {W : World} {m b n c : Nat} (h : HdB W m b n c) (j : Nat) : W.frozen? ⟨m, j, none⟩ = false := by
  unfold HdB at h
  simp [World.frozen?, h]
theorem NdB.gr {W W' : World} {b : Nat} {l : List Nd} (h : NdB W b l) (g : W.grownBy W' none) : NdB W' b l := (g.block b (lt_of_heap h) (by simp)).trans h
theorem HdB.gr {W W' : World} {m b n c : Nat} (h : HdB W m b n c) (g : W.grownBy W' none) : HdB W' m b n c := (g.block m (lt_of_heap h) (by simp)).trans h
/-- Another block is written. -/
theorem NdB.off {W : World} {b : Nat} {l : List Nd} (h : NdB W b l) {p : Addr} (hp : p.block ≠ b) (v : Value) : NdB (W.setCell p v) b l := (Below.heap_setCell _ _ _ _ (fun e => hp e.symm)).trans h
theorem HdB.off {W : World} {m b n c : Nat} (h : HdB W m b n c) {p : Addr} (hp : p.block ≠ m) (v : Value) : HdB (W.setCell p v) m b n c := (Below.heap_setCell _ _ _ _ (fun e => hp e.symm)).trans h
theorem flat_setN {l : List Nd} {k : Nat} {x : Nd} (h : l[k]? = some x) : ∃ c1 c2, c1.length = k * 3 ∧ flatC ndC l = c1 ++ ((ndC x).toList ++ c2) ∧ ∀ y, flatC ndC (l.set k y) = c1 ++ ((ndC y).toList ++ c2) := by
  have hk : k < l.length := (List.getElem?_eq_some_iff.1 h).1
  have e : l = l.take k ++ x :: l.drop (k + 1) := by
    obtain ⟨_, e1⟩ := List.getElem?_eq_some_iff.1 h
    rw [← e1, ← List.drop_eq_getElem_cons hk, List.take_append_drop]
  have hl : (l.take k).length = k := by rw [List.length_take]; omega
  refine ⟨flatC ndC (l.take k), flatC ndC (l.drop (k + 1)), by rw [flat_len ndC_size, hl], ?_, fun y => ?_⟩
  · conv => lhs; rw [e]
    rw [flat_app]; rfl
  · conv => lhs; rw [e]
    rw [List.set_append_right _ _ (by omega), hl, Nat.sub_self, List.set_cons_zero, flat_app]; rfl
/-- A cell of a node is written. -/
theorem NdB.put {W : World} {b : Nat} {l : List Nd} (h : NdB W b l) {k : Nat} {x : Nd} (hx : l[k]? = some x) (j : Nat) (v : Value) (y : Nd) (hj : j < 3) (hy : (ndC x).setIfInBounds j v = ndC y) : NdB (W.setCell ⟨b, k * 3 + j, none⟩ v) b (l.set k y) := by
  obtain ⟨c1, c2, hc, e1, e2⟩ := flat_setN hx
  unfold NdB at h ⊢
  rw [e2 y, ← hy]
  rw [e1] at h
  simp only [World.setCell, Array.getElem?_modify, h, ↓reduceIte, Option.map_some]
  congr 1
  congr 1
  rw [if_neg (by simp)]
  apply Array.ext'
  rw [Array.toList_setIfInBounds, List.toList_toArray, List.toList_toArray, Array.toList_setIfInBounds]
  rw [List.set_append_right _ _ (by omega), hc, show k * 3 + j - k * 3 = j by omega, List.set_append_left _ _ (by rw [Array.length_toList, ndC_size]; exact hj)]
theorem NdB.par {W : World} {b : Nat} {l : List Nd} (h : NdB W b l) {k p s t : Nat} (hx : l[k]? = some (p, s, t)) (q : Nat) : NdB (W.setCell ⟨b, k * 3, none⟩ (.int .i64 (q : Int))) b (l.set k (q, s, t)) := h.put hx 0 _ _ (by omega) rfl
theorem NdB.siz {W : World} {b : Nat} {l : List Nd} (h : NdB W b l) {k p s t : Nat} (hx : l[k]? = some (p, s, t)) (q : Nat) : NdB (W.setCell ⟨b, k * 3 + 1, none⟩ (.int .i64 (q : Int))) b (l.set k (p, q, t)) := h.put hx 1 _ _ (by omega) rfl
theorem NdB.lst {W : World} {b : Nat} {l : List Nd} (h : NdB W b l) {k p s t : Nat} (hx : l[k]? = some (p, s, t)) (q : Nat) : NdB (W.setCell ⟨b, k * 3 + 2, none⟩ (.int .i64 (q : Int))) b (l.set k (p, s, q)) := h.put hx 2 _ _ (by omega) rfl
theorem HdB.cnt {W : World} {m b n c : Nat} (h : HdB W m b n c) (d : Nat) : HdB (W.setCell ⟨m, 1, none⟩ (.int .i64 (d : Int))) m b n d := by
  unfold HdB at h ⊢
  simp [World.setCell, Array.getElem?_modify, h]
def GrpBody (W : World) (F : Nat → Prop) (m : Nat) (E : List Nat) : Prop := ∃ b l, UF l E ∧ b ≠ m ∧ F b ∧ HdB W m b E.length (cntG E) ∧ NdB W b l
theorem GrpBody.keep {W W' : World} {F : Nat → Prop} {m : Nat} {E : List Nat} (h : GrpBody W F m E) (k : ∀ i, F i → W'.heap[i]? = W.heap[i]?) (hm : F m) : GrpBody W' F m E := by
  obtain ⟨b, l, h1, h2, h3, h4, h5⟩ := h
  exact ⟨b, l, h1, h2, h3, (k m hm).trans h4, (k b h3).trans h5⟩
theorem GrpBody.mono {W : World} {F G : Nat → Prop} {m : Nat} {E : List Nat} (h : GrpBody W F m E) (k : ∀ i, F i → G i) : GrpBody W G m E := by
  obtain ⟨b, l, h1, h2, h3, h4, h5⟩ := h
  exact ⟨b, l, h1, h2, k b h3, h4, h5⟩

end Go.Proofs.Yteblcmebhfjbnaa
