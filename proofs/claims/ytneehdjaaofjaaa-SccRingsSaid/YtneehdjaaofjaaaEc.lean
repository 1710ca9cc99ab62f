/- make in a fence; what backward goes through. -/
import Derived.Test.YtneehdjaaofjaaaE8
import Derived.Test.YtneehdjaaofjaaaE7
import Derived.Test.YtneehdjaaofjaaaEb
namespace Go.Proofs.Ytneehdjaaofjaaa
open Go.RowKit
open Go.Shelf
theorem wpListIn_make_full {F : Fence} {n : Nat} {P : Program} (w : World) {ops : Array Oper} {rest : List Oper} {o : Oper} {a : Act} {Q : Exit → Act → World → Prop}
    (hg : o.guard = none) (l c : Operand) (t : TypeId) (hop : o.op = Op.makeSlice t l c)
    (base : Nat) (e : TypeId) (i : TypeInfo) (z : Value) (size : Nat) (h1 : P.underlying t = some (.slice e)) (h2 : P.info? e = some i) (h3 : i.zero = some z) (h4 : i.size = size)
    (kl kc : IntKind) (L C : Int) (m : Nat) (hl : a.eval l = .int kl L) (hc : a.eval c = .int kc C) (hL : L = (m : Int)) (hC : C = (m : Int)) (b2 : i.bytes * m ≤ 281474976710656) (b3 : m ≤ maxLen) (b4 : base ≤ w.heap.size)
    (hK : ∀ w', w'.ownsRow base e size (.slice (some ⟨w.heap.size, 0, none⟩) m m) m (madeCells z.cells (m * size)).toList → w.grownBy w' none → wpListIn F n P ops Q rest (a.put o.dst (.slice (some ⟨w.heap.size, 0, none⟩) m m)) w') :
    wpListIn F n P ops Q (o :: rest) a w := by
  refine wpListIn_plain hg fun K hK' => ?_
  obtain ⟨w', hrun, r1, r2⟩ := run_make_full (P := P) w base t e i z size h1 h2 h3 h4 kl kc m b2 b3 b4
  subst hL
  subst hC
  unfold Oper.wpIn
  refine ⟨?_, ?_⟩
  · simp [Oper.about, hop]
  · rw [Oper.semAt_plain F _ _ (by rw [hop]; intro c hc'; cases hc')]
    simp [execOp, hop, hl, hc, hrun, Result.andThen]
    exact hK' _ _ (hK w' r1 r2)
theorem made_int (N : Nat) : (madeCells (Value.int .i64 0).cells (N * 1)).toList = intsV (List.replicate N 0) := by
  rw [Nat.mul_one]
  refine (toList_madeCells_one _ _).trans ?_
  simp [intsV]
/-- Numbers of the call's own, made new: all 0. -/
theorem OwN.made {base b N : Nat} {W : World} (h : W.ownsRow base 3 1 (.slice (some ⟨b, 0, none⟩) N N) N (madeCells (Value.int .i64 0).cells (N * 1)).toList) : OwN base W (.slice (some ⟨b, 0, none⟩) N N) (List.replicate N 0) := by
  rw [made_int] at h
  unfold OwN
  rw [List.length_replicate]
  exact h
theorem OwN.intsB {base : Nat} {W : World} {v : Value} {l : List Int} (h : OwN base W v l) (S : Nat → Prop) (hS : ∀ k, v.ownBlock = some k → S k) : IntsB S W v l := by
  rcases h.2 with ⟨rfl, h0⟩ | ⟨g, cap, cur, rfl, hb, hh, hn, hc, hs, ht⟩
  · exact .inl ⟨rfl, List.eq_nil_of_length_eq_zero h0⟩
  · refine .inr ⟨g, cap, rfl, hS g rfl, fun j hj => ?_⟩
    rw [World.ownsRow.cellAt h j (by omega)]
    simp [intsV, List.getElem?_eq_getElem hj]
theorem OwN.parts {base : Nat} {W : World} {v : Value} {l : List Int} (h : OwN base W v l) : ∃ A c, v = .slice A l.length c ∧ (∀ k, v.ownBlock = some k → base ≤ k ∧ k < W.heap.size) := by
  obtain ⟨A, c, e⟩ := h.slice
  exact ⟨A, c, e, h.lt⟩

end Go.Proofs.Ytneehdjaaofjaaa
