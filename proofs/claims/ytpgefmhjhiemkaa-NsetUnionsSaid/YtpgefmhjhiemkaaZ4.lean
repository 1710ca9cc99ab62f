/- Sets in memory: what a call tells of them. -/
import Derived.Test.YtpgefmhjhiemkaaYB
namespace Go.Proofs.Ytpgefmhjhiemkaa
open Go.RowKit
/-- The set at block m holds the numbers E; all that it is made of lies in F. -/
structure SetAt (W : World) (F : Nat → Prop) (m : Nat) (E : List Int) : Prop where
  own : F m
  lt : ∀ k, F k → k < W.heap.size
  ok : SetOk E
  body : SetBody W F m E
theorem SetAt.keep {W W' : World} {F : Nat → Prop} {m : Nat} {E : List Int} (h : SetAt W F m E) (k : ∀ i, F i → W'.heap[i]? = W.heap[i]?) (hs : W.heap.size ≤ W'.heap.size) : SetAt W' F m E :=
  ⟨h.own, fun i hi => Nat.lt_of_lt_of_le (h.lt i hi) hs, h.ok, h.body.keep k h.own⟩
theorem SetAt.gr {W W' : World} {F : Nat → Prop} {m : Nat} {E : List Int} (h : SetAt W F m E) (g : W.grownBy W' none) : SetAt W' F m E := h.keep (fun i hi => g.block i (h.lt i hi) (by simp)) g.size
theorem SetAt.mono {W : World} {F G : Nat → Prop} {m : Nat} {E : List Int} (h : SetAt W F m E) (k : ∀ i, F i → G i) (hl : ∀ i, G i → i < W.heap.size) : SetAt W G m E := ⟨k m h.own, hl, h.ok, h.body.mono k⟩
/-- Of what was there only F may have turned. -/
structure Touch (W W' : World) (F : Nat → Prop) : Prop where
  os : W'.os = W.os
  tape : W'.tape = W.tape
  output : W'.output = W.output
  size : W.heap.size ≤ W'.heap.size
  block : ∀ k, k < W.heap.size → ¬ F k → W'.heap[k]? = W.heap[k]?
theorem Touch.of_gr {W W' : World} {F : Nat → Prop} (g : W.grownBy W' none) : Touch W W' F := ⟨g.os, g.tape, g.output, g.size, fun k hk _ => g.block k hk (by simp)⟩
theorem Touch.trans {A B C : World} {F G : Nat → Prop} (h : Touch A B F) (k : Touch B C G) (hG : ∀ i, i < A.heap.size → G i → F i) : Touch A C F :=
  ⟨k.os.trans h.os, k.tape.trans h.tape, k.output.trans h.output, Nat.le_trans h.size k.size, fun i hi hn => (k.block i (Nat.lt_of_lt_of_le hi h.size) fun hg => hn (hG i hi hg)).trans (h.block i hi hn)⟩
/-- The set at m holds E' now; only its own has turned. -/
def Upd (W W' : World) (F : Nat → Prop) (m : Nat) (E' : List Int) : Prop := ∃ F', SetAt W' F' m E' ∧ Touch W W' F ∧ ∀ k, F' k → F k ∨ W.heap.size ≤ k
/-- A set, or none. -/
def SetP (W : World) (F : Nat → Prop) : Option Nat → List Int → Prop
  | none, E => E = []
  | some m, E => SetAt W F m E
theorem SetP.ok {W : World} {F : Nat → Prop} {o : Option Nat} {E : List Int} (h : SetP W F o E) : SetOk E := by
  cases o with
  | none => rw [show E = [] from h]; exact SetOk.nil
  | some m => exact SetAt.ok h
theorem SetP.gr {W W' : World} {F : Nat → Prop} {o : Option Nat} {E : List Int} (h : SetP W F o E) (g : W.grownBy W' none) : SetP W' F o E := by
  cases o with
  | none => exact h
  | some m => exact SetAt.gr h g
def ptrV (o : Option Nat) : Value := .pointer (o.map fun m => ⟨m, 0, none⟩)

end Go.Proofs.Ytpgefmhjhiemkaa
