/- SccOrder: where each group stands in the order. -/
import Derived.Test.YtneehdjaaofjaaaW6
namespace Go.Proofs.Ytneehdjaaofjaaa
open Go.RowKit
/-- T tells of each point where it stands among the first i of O, and 0 where it does not. -/
def PsT (N : Nat) (O : List Int) (i : Nat) (T : List Int) : Prop := T.length = N ∧ ∀ (v : Nat) (x : Int), T[v]? = some x → (x = 0 ∧ ∀ k, k < i → O[k]? ≠ some (v : Int)) ∨ ∃ k, k < i ∧ O[k]? = some (v : Int) ∧ x = (k : Int) + 1
theorem PsT.first (N : Nat) (O : List Int) : PsT N O 0 (List.replicate N 0) := by
  refine ⟨List.length_replicate .., fun v x h => .inl ⟨?_, fun k hk => absurd hk (Nat.not_lt_zero _)⟩⟩
  rw [List.getElem?_replicate] at h
  split at h
  · injection h with h; exact h.symm
  · cases h
theorem PsT.next {N i v : Nat} {O T : List Int} (h : PsT N O i T) (hv : O[i]? = some (v : Int)) : PsT N O (i + 1) (T.set v ((i : Int) + 1)) := by
  refine ⟨by rw [List.length_set]; exact h.1, fun u x hx => ?_⟩
  by_cases huv : v = u
  · subst huv
    rw [List.getElem?_set] at hx
    simp at hx
    exact .inr ⟨i, Nat.lt_succ_self i, hv, hx.2.symm⟩
  · rw [List.getElem?_set, if_neg huv] at hx
    rcases h.2 u x hx with ⟨h0, hn⟩ | ⟨k, hk, hok, e⟩
    · refine .inl ⟨h0, fun k hk e => ?_⟩
      rcases Nat.lt_succ_iff_lt_or_eq.1 hk with h1 | rfl
      · exact hn k h1 e
      · rw [hv] at e
        injection e with e
        omega
    · exact .inr ⟨k, by omega, hok, e⟩
theorem or_inj {ps : List (Nat × Nat)} {G O : List Int} (ho : IsOr ps G O) {i j : Nat} {x : Int} (hi : O[i]? = some x) (hj : O[j]? = some x) : i = j := by
  have hl := (List.getElem?_eq_some_iff.1 hi).1
  exact (List.getElem?_inj hl ho.nodup).1 (hi.trans hj.symm)
theorem PsT.zero {N i v : Nat} {ps : List (Nat × Nat)} {G O T : List Int} (h : PsT N O i T) (ho : IsOr ps G O) (hv : O[i]? = some (v : Int)) (hN : v < N) : T[v]? = some 0 := by
  have hl : v < T.length := by rw [h.1]; exact hN
  have hx := List.getElem?_eq_getElem hl
  rcases h.2 v _ hx with ⟨h0, _⟩ | ⟨k, hk, hok, _⟩
  · rw [hx, h0]
  · have := or_inj ho hok hv
    omega
theorem PsT.done {N k v : Nat} {ps : List (Nat × Nat)} {G O T : List Int} (h : PsT N O O.length T) (ho : IsOr ps G O) (hv : O[k]? = some (v : Int)) (hN : v < N) : T[v]? = some ((k : Int) + 1) := by
  have hl : v < T.length := by rw [h.1]; exact hN
  have hx := List.getElem?_eq_getElem hl
  have hk := (List.getElem?_eq_some_iff.1 hv).1
  rcases h.2 v _ hx with ⟨_, hn⟩ | ⟨j, hj, hok, e⟩
  · exact absurd hv (hn k hk)
  · rw [hx, e, or_inj ho hok hv]
theorem or_top {N : Nat} {E : List Edg} {G O : List Int} (hg : IsGr N (prs N E) G) (ho : IsOr (prs N E) G O) {a : Nat} (ha : a < N) : ∃ x k : Nat, G[a]? = some (x : Int) ∧ x ≤ a ∧ G[x]? = some (x : Int) ∧ O[k]? = some (x : Int) := by
  obtain ⟨x, hx, ht⟩ := hg.2 a ha
  have hxa := ht.le
  obtain ⟨y, hy, hty⟩ := hg.2 x (by omega)
  have e := ht.own.same hty
  subst e
  obtain ⟨k, hk⟩ := List.getElem?_of_mem (ho.all hg x (by omega) hy)
  exact ⟨x, k, hx, hxa, hy, hk⟩
theorem or_edge {N : Nat} {E : List Edg} {G O : List Int} (ho : IsOr (prs N E) G O) {a b x y i j : Nat} (hab : (a, b) ∈ prs N E) (hx : G[a]? = some (x : Int)) (hy : G[b]? = some (y : Int)) (hi : O[i]? = some (x : Int)) (hj : O[j]? = some (y : Int)) : i ≤ j := by
  by_cases hxy : x = y
  · subst hxy
    exact Nat.le_of_eq (or_inj ho hi hj)
  · obtain ⟨v, hv, hn⟩ := ho.1 j y hj
    have : v = y := by omega
    subst this
    have := hn.1.2.2 a b hab hy (by rw [hx]; intro e; injection e with e; omega) _ hx
    obtain ⟨k, hk⟩ := List.getElem?_of_mem this
    have hkj := (List.getElem?_eq_some_iff.1 hk).1
    rw [List.length_take] at hkj
    rw [List.getElem?_take_of_lt (by omega)] at hk
    have := or_inj ho hi hk
    omega
/-- Numbers of the call's own, in a block r. -/
def OwI (base : Nat) (W : World) (r c : Nat) (T : List Int) : Prop := W.ownsRow base 3 1 (.slice (some ⟨r, 0, none⟩) T.length c) T.length (intsV T)
theorem OwI.gr {base r c : Nat} {W W' : World} {T : List Int} (h : OwI base W r c T) (g : W.grownBy W' none) : OwI base W' r c T := own_gr h g
theorem OwI.lt {base r c : Nat} {W : World} {T : List Int} (h : OwI base W r c T) : base ≤ r ∧ r < W.heap.size := World.ownsRow.lt h r rfl
theorem OwI.cell {base r c : Nat} {W : World} {T : List Int} (h : OwI base W r c T) {i : Nat} {x : Int} (hi : T[i]? = some x) : W.cell? ⟨r, i, none⟩ = some (.int .i64 x) := by
  have hl := (List.getElem?_eq_some_iff.1 hi).1
  rw [World.ownsRow.cellAt h i (by omega)]
  unfold intsV
  rw [List.getElem?_map, hi]
  rfl
theorem OwI.fr {base r c : Nat} {W : World} {T : List Int} (h : OwI base W r c T) (i : Nat) : W.frozen? ⟨r, i, none⟩ = false := World.ownsRow.frozenAt h i
theorem OwI.set {base r c : Nat} {W : World} {T : List Int} (h : OwI base W r c T) (i : Nat) (x : Int) : OwI base (W.setCell ⟨r, i, none⟩ (.int .i64 x)) r c (T.set i x) ∧ W.grownBy (W.setCell ⟨r, i, none⟩ (.int .i64 x)) (some r) := by
  obtain ⟨h1, h2⟩ := World.ownsRow.stored h i (.int .i64 x)
  refine ⟨?_, h2⟩
  unfold OwI
  rw [List.length_set]
  have : intsV (T.set i x) = (intsV T).set i (.int .i64 x) := by unfold intsV; rw [List.map_set]
  rw [this]
  exact h1
theorem ow_made {N : Nat} : madeCells (Value.int .i64 0).cells (N * 1) = (intsV (List.replicate N 0)).toArray := by
  have h : (madeCells #[Value.int .i64 0] N).toList = List.replicate N (Value.int .i64 0) := toList_madeCells_one _ _
  refine Array.toList_inj.1 ?_
  rw [Nat.mul_one]
  show (madeCells #[Value.int .i64 0] N).toList = _
  rw [h]
  simp [intsV]
theorem OwI.first {base r N : Nat} {W : World} (h : W.ownsRow base 3 1 (.slice (some ⟨r, 0, none⟩) N N) N (madeCells (Value.int .i64 0).cells (N * 1)).toList) : OwI base W r N (List.replicate N 0) := by
  rw [ow_made] at h
  unfold OwI
  rw [List.length_replicate]
  exact h

end Go.Proofs.Ytneehdjaaofjaaa
