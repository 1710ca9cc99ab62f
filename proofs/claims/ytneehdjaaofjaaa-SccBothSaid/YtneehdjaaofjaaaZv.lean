/- Arguments: numbers, lists of ints, rows of structs. -/
import Derived.Test.YtneehdjaaofjaaaRows
import Derived.Test.YtneehdjaaofjaaaZs
import Derived.ProofKit
import Derived.OpenShut
import Derived.ChangeOld
import Derived.ChangeSlices
import Derived.Carry
import Derived.Deep.Slices
import Derived.Lib.SmallJoins
namespace Go.Proofs.Ytneehdjaaofjaaa
open Go.RowKit
open Go.ChangeShapes Go.WideShapes Go.ChangeAt Go.RowKit Go.Joins Go.Deep
theorem own : ownKnob Try.prog.godebug = none := by kernel_rfl
theorem laidOut : laidOutB Try.prog = true := by kernel_rfl
theorem gr_below {a b : World} (g : a.grownBy b none) : Below a.heap.size a b := ⟨g.os, g.tape, g.output, g.size, fun k hk => g.block k hk (by simp)⟩
def I64 (n : Int) : Prop := -9223372036854775808 ≤ n ∧ n ≤ 9223372036854775807
theorem i64_wf {n : Int} (h : (Lit.int .i64 n).wf = true) : I64 n := by
  have h1 : IntKind.i64.min = -9223372036854775808 := rfl
  have h2 : IntKind.i64.max = 9223372036854775807 := rfl
  simp [Lit.wf] at h
  unfold I64
  omega
theorem u8_wf {n : Int} (h : (Lit.int .u8 n).wf = true) : 0 ≤ n ∧ n < 256 := by
  have h1 : IntKind.u8.min = 0 := rfl
  have h2 : IntKind.u8.max = 255 := rfl
  simp [Lit.wf] at h
  omega
theorem u16_wf {n : Int} (h : (Lit.int .u16 n).wf = true) : 0 ≤ n ∧ n < 65536 := by
  have h1 : IntKind.u16.min = 0 := rfl
  have h2 : IntKind.u16.max = 65535 := rfl
  simp [Lit.wf] at h
  omega
theorem cInt : Try.prog.cellsOf 3 = 1 := by kernel_rfl
theorem lists_of {α : Type} {P : Nat → α → Prop} : ∀ (n : Nat), (∀ j, j < n → ∃ x, P j x) → ∃ l : List α, l.length = n ∧ ∀ j x, l[j]? = some x → P j x
  | 0, _ => ⟨[], rfl, fun j x h => by simp at h⟩
  | n + 1, h => by
    obtain ⟨l, hl, hp⟩ := lists_of n (fun j hj => h j (by omega))
    obtain ⟨y, hy⟩ := h n (by omega)
    refine ⟨l ++ [y], by simp [hl], fun j x hx => ?_⟩
    by_cases hj : j < l.length
    · rw [List.getElem?_append_left hj] at hx
      exact hp j x hx
    · have : j < (l ++ [y]).length := (List.getElem?_eq_some_iff.1 hx).1
      simp at this
      obtain rfl : j = l.length := by omega
      simp at hx
      subst hx
      rw [hl]
      exact hy
section
variable {H : Type} {enc : TypeId × Value → H} {W : World} {base : Nat}
/-- A list of ints that came in. -/
theorem arg_ints {v : Value} {d : DataW H} {p : List MemPlace} (ht : Try.prog.underlying 27 = some (.slice 3)) (hv : Value.okWide Try.prog W .any base 27 v)
    (h : DataW.Trod enc Try.prog W 0 (fun _ => true) true 27 v d p) : ∃ (oa : Option Addr) (n cap : Nat) (l : List Int), v = .slice oa n cap ∧ IntsAt W oa n cap l ∧ n ≤ cap ∧ (∀ x ∈ l, I64 x) ∧ n ≤ 9223372036854775807 := by
  obtain ⟨a, len, cap, rfl⟩ := okWide_slice ht hv
  obtain ⟨fuel, hf⟩ := h
  rcases open_slice ht hf with ⟨hcs, _⟩ | ⟨ad, len', cap', m, n', D, Pl, hcs, hb, hl, hm, hmm, _, hi⟩
  · simp [Value.cells] at hcs
    obtain ⟨rfl, rfl, rfl⟩ := hcs
    exact ⟨none, 0, 0, [], rfl, IntsAt.nil W, Nat.le_refl _, (fun x h => by cases h), by omega⟩
  · simp [Value.cells] at hcs
    obtain ⟨rfl, rfl, rfl⟩ := hcs
    have hlm : len ≤ m := by rw [hmm]; split <;> omega
    obtain ⟨l, hll, hp⟩ := lists_of (P := fun j (y : Int) => I64 y ∧ W.cell? (ad.add j) = some (.int .i64 y)) len (fun j hj => by
      obtain ⟨cs', hc, htr⟩ := hi j (by omega)
      rw [cInt, Nat.mul_one] at hc
      obtain ⟨y, rfl, _, hw⟩ := DataW.trod_int Try.underlying3 htr
      obtain ⟨_, _, hat⟩ := World.cells?_some hc
      have h1 := hat 0 (by decide)
      rw [Addr.add_add, Nat.add_zero] at h1
      exact ⟨y, i64_wf hw, h1⟩)
    refine ⟨some ad, len, cap, l, rfl, ⟨hll.symm, .inr ⟨ad, rfl, fun j y hy => (hp j y hy).2⟩⟩, hl, fun y hy => ?_, by unfold maxLen at hm; omega⟩
    obtain ⟨j, hj⟩ := List.getElem?_of_mem hy
    exact (hp j y hj).1
/-- A row of structs that came in. -/
theorem arg_structs {α : Type} {C : α → Array Value} {m : Nat} {t e : TypeId} {Q : α → Prop} (ht : Try.prog.underlying t = some (.slice e)) (hm0 : Try.prog.cellsOf e = m)
    (hel : ∀ (n : Nat) (cs : List Value) (y : DataW H × List MemPlace), DataW.trod enc Try.prog W 0 (fun _ => true) true n e cs = some y → ∃ a : α, cs = (C a).toList ∧ Q a) (hsz : ∀ a, (C a).size = m)
    {v : Value} {d : DataW H} {p : List MemPlace} (hv : Value.okWide Try.prog W .any base t v)
    (h : DataW.Trod enc Try.prog W 0 (fun _ => true) true t v d p) : ∃ (oa : Option Addr) (cap : Nat) (l : List α), v = .slice oa l.length cap ∧ StrAt C m W oa l ∧ l.length ≤ cap ∧ ∀ x ∈ l, Q x := by
  obtain ⟨a, len, cap, rfl⟩ := okWide_slice ht hv
  obtain ⟨fuel, hf⟩ := h
  rcases open_slice ht hf with ⟨hcs, _⟩ | ⟨ad, len', cap', mm, n', D, Pl, hcs, hb, hl, hm, hmm, _, hi⟩
  · simp [Value.cells] at hcs
    obtain ⟨rfl, rfl, rfl⟩ := hcs
    exact ⟨none, 0, [], rfl, .inl rfl, Nat.le_refl _, fun x h => by cases h⟩
  · simp [Value.cells] at hcs
    obtain ⟨rfl, rfl, rfl⟩ := hcs
    have hlm : len ≤ mm := by rw [hmm]; split <;> omega
    obtain ⟨l, hll, hp⟩ := lists_of (P := fun j (y : α) => (∀ k u, (C y)[k]? = some u → W.cell? (ad.add (j * m + k)) = some u) ∧ Q y) len (fun j hj => by
      obtain ⟨cs', hc, htr⟩ := hi j (by omega)
      rw [hm0] at hc
      obtain ⟨y, rfl, hq⟩ := hel _ _ _ htr
      obtain ⟨_, _, hat⟩ := World.cells?_some hc
      refine ⟨y, fun k u hu => ?_, hq⟩
      have hk : k < m := by have := (Array.getElem?_eq_some_iff.1 hu).1; rw [hsz] at this; exact this
      have h1 := hat k hk
      rw [Addr.add_add] at h1
      rw [h1, Array.getElem?_toList]
      exact hu)
    subst hll
    refine ⟨some ad, cap, l, rfl, .inr ⟨ad, rfl, fun j y hy => (hp j y hy).1⟩, hl, fun y hy => ?_⟩
    obtain ⟨j, hj⟩ := List.getElem?_of_mem hy
    exact (hp j y hj).2
end

end Go.Proofs.Ytneehdjaaofjaaa
