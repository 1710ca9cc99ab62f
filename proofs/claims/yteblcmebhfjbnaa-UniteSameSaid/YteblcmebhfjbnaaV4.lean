/- Groups in memory: what a call tells of them. -/
import Derived.Test.YteblcmebhfjbnaaVB
namespace Go.Proofs.Yteblcmebhfjbnaa
open Go.RowKit
def GrpOk (E : List Nat) : Prop := GOk E ∧ E.length ≤ 100000
/-- The groups at block m are the labels E; all that it is made of lies in F. -/
structure GrpAt (W : World) (F : Nat → Prop) (m : Nat) (E : List Nat) : Prop where
  own : F m
  lt : ∀ k, F k → k < W.heap.size
  ok : GrpOk E
  body : GrpBody W F m E
theorem GrpAt.keep {W W' : World} {F : Nat → Prop} {m : Nat} {E : List Nat} (h : GrpAt W F m E) (k : ∀ i, F i → W'.heap[i]? = W.heap[i]?) (hs : W.heap.size ≤ W'.heap.size) : GrpAt W' F m E :=
  ⟨h.own, fun i hi => Nat.lt_of_lt_of_le (h.lt i hi) hs, h.ok, h.body.keep k h.own⟩
theorem GrpAt.gr {W W' : World} {F : Nat → Prop} {m : Nat} {E : List Nat} (h : GrpAt W F m E) (g : W.grownBy W' none) : GrpAt W' F m E := h.keep (fun i hi => g.block i (h.lt i hi) (by simp)) g.size
theorem GrpAt.mono {W : World} {F G : Nat → Prop} {m : Nat} {E : List Nat} (h : GrpAt W F m E) (k : ∀ i, F i → G i) (hl : ∀ i, G i → i < W.heap.size) : GrpAt W G m E := ⟨k m h.own, hl, h.ok, h.body.mono k⟩
/-- Of what was there only F may have turned. -/
structure Touch (W W' : World) (F : Nat → Prop) : Prop where
  os : W'.os = W.os
  tape : W'.tape = W.tape
  output : W'.output = W.output
  size : W.heap.size ≤ W'.heap.size
  block : ∀ k, k < W.heap.size → ¬ F k → W'.heap[k]? = W.heap[k]?
theorem Touch.of_gr {W W' : World} {F : Nat → Prop} (g : W.grownBy W' none) : Touch W W' F := ⟨g.os, g.tape, g.output, g.size, fun k hk _ => g.block k hk (by simp)⟩
theorem Touch.trans {A B C : World} {F G : Nat → Prop} (h : Touch A B F) (k : Touch B C G) (hG : ∀ i, i < A.heap.size → G i → F i) : Touch A C F :=
  ⟨k.os.trans h.os, k.tape.trans h.tape, k.output.trans h.output, Nat.le_trans h.size k.size, fun i hi hn => (k.block i (Nat.lt_of_lt_of_le hi h.size) fun hg => hn (hG i hi hg)).trans (h.block i hi hn)⟩
/-- The groups at m are E' now; only its own has turned. -/
def Upd (W W' : World) (F : Nat → Prop) (m : Nat) (E' : List Nat) : Prop := ∃ F', GrpAt W' F' m E' ∧ Touch W W' F ∧ ∀ k, F' k → F k ∨ W.heap.size ≤ k

end Go.Proofs.Yteblcmebhfjbnaa
