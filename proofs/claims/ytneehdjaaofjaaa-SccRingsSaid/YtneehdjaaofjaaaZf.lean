/- Rows of structs: all their cells. -/
import Derived.Test.YtneehdjaaofjaaaZs
namespace Go.Proofs.Ytneehdjaaofjaaa
open Go.RowKit
/-- All cells of some structs. -/
def flatC {α : Type} (C : α → Array Value) (l : List α) : List Value := l.flatMap fun x => (C x).toList
theorem flat_len {α : Type} {C : α → Array Value} {m : Nat} (hm : ∀ x, (C x).size = m) : ∀ l : List α, (flatC C l).length = l.length * m
  | [] => by simp [flatC]
  | x :: r => by
    have h := flat_len hm r
    show ((C x).toList ++ flatC C r).length = _
    rw [List.length_append, h, Array.length_toList, hm, List.length_cons, Nat.add_mul]
    omega
theorem flat_at {α : Type} {C : α → Array Value} {m : Nat} (hm : ∀ x, (C x).size = m) : ∀ (l : List α) (j k : Nat), k < m → (flatC C l)[j * m + k]? = (l[j]?).bind fun x => (C x)[k]?
  | [], j, k, _ => by simp [flatC]
  | x :: r, j, k, hk => by
    show ((C x).toList ++ flatC C r)[j * m + k]? = _
    rcases j with _ | j
    · rw [Nat.zero_mul, Nat.zero_add, List.getElem?_append_left (by rw [Array.length_toList, hm]; exact hk)]
      simp
    · rw [List.getElem?_append_right (by rw [Array.length_toList, hm, Nat.add_mul]; omega), Array.length_toList, hm, show (j + 1) * m + k - m = j * m + k by rw [Nat.add_mul]; omega, flat_at hm r j k hk]
      simp
theorem flat_app {α : Type} (C : α → Array Value) (a b : List α) : flatC C (a ++ b) = flatC C a ++ flatC C b := List.flatMap_append
theorem StrAt.flat {α : Type} {C : α → Array Value} {m : Nat} (hm : ∀ x, (C x).size = m) {w : World} {ad : Addr} {l : List α} (h : StrAt C m w (some ad) l) : ∀ j u, (flatC C l)[j]? = some u → w.cell? (ad.add j) = some u := by
  intro j u hu
  have hj : j < l.length * m := by have := (List.getElem?_eq_some_iff.1 hu).1; rwa [flat_len hm] at this
  have hm0 : 0 < m := by rcases Nat.eq_zero_or_pos m with e | e; · subst e; omega
                         · exact e
  have hr : j % m < m := Nat.mod_lt _ hm0
  have hd : j = j / m * m + j % m := by have := Nat.div_add_mod j m; rw [Nat.mul_comm] at this; exact this.symm
  rcases h with rfl | ⟨ad', e, hc⟩
  · simp [flatC] at hu
  · obtain rfl := Option.some.inj e
    have hu' := hu
    rw [hd, flat_at hm _ _ _ hr] at hu'
    rcases hx : l[j / m]? with _ | x
    · rw [hx] at hu'; simp at hu'
    · rw [hx] at hu'
      rw [hd]
      exact hc _ x hx _ u (by simpa using hu')
theorem StrAt.of_own {α : Type} {C : α → Array Value} {m : Nat} (hm : ∀ x, (C x).size = m) {w : World} {base g c : Nat} {e : TypeId} {l : List α}
    (h : w.ownsRow base e m (.slice (some ⟨g, 0, none⟩) l.length c) l.length (flatC C l)) : StrAt C m w (some ⟨g, 0, none⟩) l := by
  refine .inr ⟨_, rfl, fun j x hx k u hu => ?_⟩
  have hk : k < m := by have := (Array.getElem?_eq_some_iff.1 hu).1; rwa [hm] at this
  have hj := (List.getElem?_eq_some_iff.1 hx).1
  have hjm : j * m + k < l.length * m := by
    have : (j + 1) * m ≤ l.length * m := Nat.mul_le_mul_right _ hj
    rw [Nat.add_mul] at this
    omega
  rw [add_none, Nat.zero_add, h.cellAt _ hjm, flat_at hm _ _ _ hk, hx]
  exact hu
theorem flat_one {α : Type} {C : α → Array Value} (h1 : ∀ x, ∀ u ∈ (C x).toList, u.oneCell' = true) (l : List α) : ∀ u ∈ flatC C l, u.oneCell' = true := by
  intro u hu
  obtain ⟨x, _, hx⟩ := List.mem_flatMap.1 hu
  exact h1 x u hx
theorem flat_take {α : Type} {C : α → Array Value} {m : Nat} (hm : ∀ x, (C x).size = m) (l : List α) (o : Nat) (ho : o ≤ l.length) : (flatC C l).take (o * m) = flatC C (l.take o) := by
  conv => lhs; rw [← List.take_append_drop o l]
  have hl : (flatC C (l.take o)).length = o * m := by rw [flat_len hm, List.length_take, Nat.min_eq_left ho]
  rw [flat_app, ← hl, List.take_left']
  rfl
theorem flat_drop {α : Type} {C : α → Array Value} {m : Nat} (hm : ∀ x, (C x).size = m) (l : List α) (o : Nat) (ho : o ≤ l.length) : (flatC C l).drop (o * m) = flatC C (l.drop o) := by
  conv => lhs; rw [← List.take_append_drop o l]
  have hl : (flatC C (l.take o)).length = o * m := by rw [flat_len hm, List.length_take, Nat.min_eq_left ho]
  rw [flat_app, ← hl, List.drop_left']
  rfl

end Go.Proofs.Ytneehdjaaofjaaa
