/- Groups that pairs make, in whichever order, in plain words. -/
import Derived.Test.YteblcmebhfjbnaaV0
namespace Go.Proofs.Yteblcmebhfjbnaa
open Go.RowKit
def pN (p : Int × Int) : List (Nat × Nat) := if 0 ≤ p.1 ∧ 0 ≤ p.2 then [(p.1.toNat, p.2.toNat)] else []
theorem pN_mem {p : Int × Int} {a b : Nat} : (a, b) ∈ pN p ↔ p = ((a : Int), (b : Int)) := by
  unfold pN
  obtain ⟨x, y⟩ := p
  split
  · rename_i h
    simp only [List.mem_singleton, Prod.mk.injEq] at h ⊢
    omega
  · rename_i h
    simp only [List.not_mem_nil, Prod.mk.injEq, false_iff] at h ⊢
    omega
def foldJ (g : List Nat) (ps : List (Int × Int)) : List Nat := ps.foldl (fun g p => (joinG g p.1 p.2).1) g
theorem foldJ_snoc (g : List Nat) (ps : List (Int × Int)) (p : Int × Int) : foldJ g (ps ++ [p]) = (joinG (foldJ g ps) p.1 p.2).1 := by unfold foldJ; rw [List.foldl_append]; rfl
theorem joinG_is {n : Nat} {ps : List (Nat × Nat)} {g : List Nat} (h : GIs n ps g) (p : Int × Int) : GIs n (ps ++ pN p) (joinG g p.1 p.2).1 := by
  obtain ⟨x, y⟩ := p
  dsimp only
  rcases findI_cases g x with ⟨hx, ex⟩ | ⟨i, k, rfl, hk, ex⟩
  · rw [joinG, if_pos (.inl (by omega))]
    unfold pN
    split
    · rename_i h0
      refine h.idle _ (fun h1 h2 => ?_)
      exfalso
      rw [h.len] at hx
      dsimp only at h0 h1
      omega
    · rw [List.append_nil]; exact h
  rcases findI_cases g y with ⟨hy, ey⟩ | ⟨j, l, rfl, hl, ey⟩
  · rw [joinG, if_pos (.inr (.inl (by omega)))]
    unfold pN
    split
    · rename_i h0
      refine h.idle _ (fun h1 h2 => ?_)
      exfalso
      rw [h.len] at hy
      dsimp only at h0 h2
      omega
    · rw [List.append_nil]; exact h
  have e : pN ((i : Int), (j : Int)) = [(i, j)] := by
    unfold pN
    rw [if_pos (by dsimp only; omega)]
    simp
  rw [e]
  by_cases hkl : k = l
  · rw [joinG, if_pos (.inr (.inr (by rw [ex, ey, hkl])))]
    exact h.idle _ (fun _ _ => by rw [hk, hl, hkl])
  · rw [joinG, if_neg (by rw [ex, ey]; omega), ex, ey, Int.toNat_natCast, Int.toNat_natCast]
    exact h.join hk hl hkl
theorem foldJ_is {n : Nat} : ∀ (ps : List (Int × Int)) {qs : List (Nat × Nat)} {g : List Nat}, GIs n qs g → GIs n (qs ++ ps.flatMap pN) (foldJ g ps)
  | [], qs, g, h => by rw [List.flatMap_nil, List.append_nil]; exact h
  | p :: r, qs, g, h => by
    rw [List.flatMap_cons, ← List.append_assoc]
    exact foldJ_is r (joinG_is h p)
def swp2 (p : Int × Int) : Int × Int := (p.2, p.1)
theorem foldJ_both (n : Nat) (ps : List (Int × Int)) : foldJ (List.range n) ps = foldJ (List.range n) (ps.reverse.map swp2) := by
  have h1 := foldJ_is ps (GIs.first n)
  have h2 := foldJ_is (ps.reverse.map swp2) (GIs.first n)
  refine h1.same h2 fun f => ?_
  have key : ∀ a b : Nat, (a, b) ∈ ps.flatMap pN ↔ (b, a) ∈ (ps.reverse.map swp2).flatMap pN := fun a b => by
    rw [List.mem_flatMap, List.mem_flatMap]
    constructor
    · rintro ⟨p, hp, h⟩
      rw [pN_mem] at h
      subst h
      exact ⟨swp2 ((a : Int), (b : Int)), List.mem_map.2 ⟨_, List.mem_reverse.2 hp, rfl⟩, pN_mem.2 rfl⟩
    · rintro ⟨p, hp, h⟩
      rw [pN_mem] at h
      obtain ⟨q, hq, e⟩ := List.mem_map.1 hp
      refine ⟨q, List.mem_reverse.1 hq, pN_mem.2 ?_⟩
      obtain ⟨x, y⟩ := q
      rw [h] at e
      simp only [swp2, Prod.mk.injEq] at e ⊢
      exact ⟨e.2, e.1⟩
  rw [List.nil_append, List.nil_append]
  constructor
  · rintro h ⟨a, b⟩ hp ha hb
    exact (h (b, a) ((key b a).2 hp) hb ha).symm
  · rintro h ⟨a, b⟩ hp ha hb
    exact (h (b, a) ((key a b).1 hp) hb ha).symm
theorem rev_at {α : Type} {l : List α} {k j : Nat} {x : α} (h : l[j]? = some x) (e : j + k + 1 = l.length) : l.reverse[k]? = some x := by
  rw [List.getElem?_reverse (by omega), show l.length - 1 - k = j by omega, h]

end Go.Proofs.Yteblcmebhfjbnaa
