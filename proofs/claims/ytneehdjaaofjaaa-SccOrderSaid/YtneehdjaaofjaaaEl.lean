/- A heap of numbers, in plain words. -/
import Derived.Test.YtneehdjaaofjaaaE8
namespace Go.Proofs.Ytneehdjaaofjaaa
open Go.RowKit
def gI (L : List Int) (k : Nat) : Int := (L[k]?).getD 0
theorem gI_at {L : List Int} {k : Nat} (h : k < L.length) : L[k]? = some (gI L k) := by
  unfold gI
  rw [List.getElem?_eq_getElem h]
  rfl
def swp (L : List Int) (i j : Nat) : List Int := (L.set i (gI L j)).set j (gI L i)
theorem swp_len (L : List Int) (i j : Nat) : (swp L i j).length = L.length := by simp [swp]
theorem swp_at {L : List Int} {i j : Nat} (hi : i < L.length) (hj : j < L.length) (k : Nat) : gI (swp L i j) k = if k = j then gI L i else if k = i then gI L j else gI L k := by
  unfold swp
  generalize gI L j = x
  generalize gI L i = y
  unfold gI
  by_cases e1 : k = j
  · subst e1
    simp [hj]
  · by_cases e2 : k = i
    · subst e2
      simp [hi, e1, Ne.symm e1]
    · simp [e1, e2, Ne.symm e1, Ne.symm e2]
theorem swp_perm {L : List Int} {i j : Nat} (hi : i < L.length) (hj : j < L.length) : (swp L i j).Perm L := by
  have h := List.set_set_perm hi hj
  have e1 : gI L j = L[j] := by unfold gI; rw [List.getElem?_eq_getElem hj]; rfl
  have e2 : gI L i = L[i] := by unfold gI; rw [List.getElem?_eq_getElem hi]; rfl
  unfold swp
  rw [e1, e2]
  exact h
/-- The first n are a heap. -/
def HpN (L : List Int) (n : Nat) : Prop := ∀ k, 0 < k → k < n → gI L ((k - 1) / 2) ≤ gI L k
theorem HpN.least {L : List Int} {n : Nat} (h : HpN L n) : ∀ k, k < n → gI L 0 ≤ gI L k := by
  intro k
  induction k using Nat.strongRecOn with
  | _ k ih =>
    intro hk
    rcases Nat.eq_zero_or_pos k with rfl | h0
    · exact Int.le_refl _
    · exact Int.le_trans (ih ((k - 1) / 2) (by omega) (by omega)) (h k h0 hk)
/-- .. but for j, which may be too small. -/
structure UpI (L : List Int) (j : Nat) : Prop where
  made ::
  lt : j < L.length
  hp : ∀ k, 0 < k → k < L.length → k ≠ j → gI L ((k - 1) / 2) ≤ gI L k
  far : ∀ k, 0 < k → k < L.length → (k - 1) / 2 = j → 0 < j → gI L ((j - 1) / 2) ≤ gI L k
theorem UpI.done {L : List Int} {j : Nat} (h : UpI L j) (k : j = 0 ∨ gI L ((j - 1) / 2) ≤ gI L j) : HpN L L.length := fun q h0 hq => by
  by_cases e : q = j
  · subst e
    rcases k with k | k
    · omega
    · exact k
  · exact h.hp q h0 hq e
theorem UpI.next {L : List Int} {j : Nat} (h : UpI L j) (h0 : 0 < j) (k : gI L j < gI L ((j - 1) / 2)) : UpI (swp L ((j - 1) / 2) j) ((j - 1) / 2) := by
  obtain ⟨i, hi⟩ : ∃ i, i = (j - 1) / 2 := ⟨_, rfl⟩
  rw [← hi] at k ⊢
  have hij : i < j := by omega
  have hl := h.lt
  have hil : i < L.length := by omega
  have S := fun q => swp_at hil hl q
  refine ⟨by rw [swp_len]; exact hil, fun q q0 ql qi => ?_, fun q q0 ql qp i0 => ?_⟩
  · rw [swp_len] at ql
    rw [S, S]
    by_cases e1 : q = j
    · subst e1
      rw [if_pos rfl, ← hi, if_neg (by omega), if_pos rfl]
      omega
    · rw [if_neg e1, if_neg qi]
      have hq := h.hp q q0 ql e1
      by_cases e2 : (q - 1) / 2 = j
      · rw [if_pos e2]
        have := h.far q q0 ql e2 h0
        rw [← hi] at this
        exact this
      · rw [if_neg e2]
        by_cases e3 : (q - 1) / 2 = i
        · rw [if_pos e3]
          rw [e3] at hq
          omega
        · rw [if_neg e3]
          exact hq
  · rw [swp_len] at ql
    rw [S, S, if_neg (by omega), if_neg (by omega)]
    have hi' := h.hp i i0 hil (by omega)
    by_cases e1 : q = j
    · subst e1
      rw [if_pos rfl]
      exact hi'
    · rw [if_neg e1, if_neg (by omega)]
      have hq := h.hp q q0 ql e1
      rw [qp] at hq
      omega
/-- The first n are a heap but for i, which may be too great. -/
structure DnI (L : List Int) (i n : Nat) : Prop where
  made ::
  len : n ≤ L.length
  hp : ∀ k, 0 < k → k < n → (k - 1) / 2 ≠ i → gI L ((k - 1) / 2) ≤ gI L k
  far : ∀ k, 0 < k → k < n → (k - 1) / 2 = i → 0 < i → gI L ((i - 1) / 2) ≤ gI L k
theorem DnI.leaf {L : List Int} {i n : Nat} (h : DnI L i n) (k : n ≤ 2 * i + 1) : HpN L n := fun q h0 hq => h.hp q h0 hq (by omega)
theorem DnI.done {L : List Int} {i n j : Nat} (h : DnI L i n) (k : ∀ c, c < n → (c = 2 * i + 1 ∨ c = 2 * i + 2) → gI L j ≤ gI L c) (hj : gI L i ≤ gI L j) : HpN L n := fun q h0 hq => by
  by_cases e : (q - 1) / 2 = i
  · rw [e]
    have := k q hq (by omega)
    omega
  · exact h.hp q h0 hq e
theorem DnI.next {L : List Int} {i n j : Nat} (h : DnI L i n) (hjn : j < n) (hj : j = 2 * i + 1 ∨ j = 2 * i + 2) (k : ∀ c, c < n → (c = 2 * i + 1 ∨ c = 2 * i + 2) → gI L j ≤ gI L c) (hl : gI L j < gI L i) : DnI (swp L i j) j n := by
  have hln := h.len
  have hil : i < L.length := by omega
  have hjl : j < L.length := by omega
  have S := fun q => swp_at hil hjl q
  have hji : (j - 1) / 2 = i := by omega
  refine ⟨by rw [swp_len]; exact hln, fun q q0 ql qp => ?_, fun q q0 ql qp j0 => ?_⟩
  · rw [S, S, if_neg qp]
    by_cases e1 : (q - 1) / 2 = i
    · rw [if_pos e1]
      by_cases e2 : q = j
      · rw [if_pos e2]
        omega
      · rw [if_neg e2, if_neg (by omega)]
        exact k q ql (by omega)
    · rw [if_neg e1, if_neg (by omega)]
      by_cases e2 : q = i
      · rw [if_pos e2]
        subst e2
        exact h.far j (by omega) hjn hji (by omega)
      · rw [if_neg e2]
        exact h.hp q q0 ql e1
  · rw [S, S, hji, if_neg (by omega), if_pos rfl, if_neg (by omega), if_neg (by omega)]
    have hq := h.hp q q0 ql (by omega)
    rw [qp] at hq
    exact hq

end Go.Proofs.Ytneehdjaaofjaaa
