/- Runs in plain words: their ends one by one. -/
import Derived.Test.YtpgefmhjhiemkaaY4
namespace Go.Proofs.Ytpgefmhjhiemkaa
open Go.RowKit
theorem runs_of : ∀ {E : List Int}, RiseI E → ∃ iv, SpOk iv ∧ els iv = E
  | [], _ => ⟨[], trivial, rfl⟩
  | x :: r, h => by
    obtain ⟨h1, h2⟩ := List.pairwise_cons.1 h
    obtain ⟨iv, hs, he⟩ := runs_of h2
    cases iv with
    | nil =>
      rw [← he]
      exact ⟨[(x, x)], Int.le_refl _, by
        show seqI x (x - x + 1).toNat ++ [] = x :: els []
        rw [show (x - x + 1).toNat = 1 by omega, seqI_succ]
        rfl⟩
    | cons p iv =>
      have hp := hs.head
      have hx : x < p.1 := h1 _ (by rw [← he]; exact els_mem.2 ⟨p, by simp, Int.le_refl _, hp⟩)
      by_cases hn : p.1 = x + 1
      · refine ⟨(x, p.2) :: iv, ?_, ?_⟩
        · cases iv with
          | nil => show x ≤ p.2; omega
          | cons q t => exact ⟨by show x ≤ p.2; omega, hs.2.1, hs.2.2⟩
        · rw [← he]
          show seqI x (p.2 - x + 1).toNat ++ els iv = x :: (seqI p.1 (p.2 - p.1 + 1).toNat ++ els iv)
          rw [show (p.2 - x + 1).toNat = (p.2 - p.1 + 1).toNat + 1 by omega, seqI_succ, hn]
          rfl
      · refine ⟨(x, x) :: p :: iv, ⟨Int.le_refl _, by show x + 1 < p.1; omega, hs⟩, ?_⟩
        rw [← he]
        show seqI x (x - x + 1).toNat ++ els (p :: iv) = x :: els (p :: iv)
        rw [show (x - x + 1).toNat = 1 by omega, seqI_succ]
        rfl
theorem flatI_len : ∀ iv : List (Int × Int), (flatI iv).length = 2 * iv.length
  | [] => rfl
  | p :: r => by
    show (p.1 :: p.2 :: flatI r).length = _
    rw [List.length_cons, List.length_cons, flatI_len r, List.length_cons]
    omega
theorem flatI_at : ∀ (iv : List (Int × Int)) (k : Nat) (p : Int × Int), iv[k]? = some p → (flatI iv)[2 * k]? = some p.1 ∧ (flatI iv)[2 * k + 1]? = some p.2
  | [], k, p, h => by simp at h
  | q :: r, 0, p, h => by
    simp only [List.getElem?_cons_zero, Option.some.injEq] at h
    subst h
    exact ⟨rfl, rfl⟩
  | q :: r, k + 1, p, h => by
    have ih := flatI_at r k p (by simpa using h)
    rw [show 2 * (k + 1) = 2 * k + 1 + 1 by omega]
    exact ih
theorem SpOk.at_ : ∀ {iv : List (Int × Int)} {k : Nat} {p : Int × Int}, SpOk iv → iv[k]? = some p → p.1 ≤ p.2
  | [], k, p, _, h => by simp at h
  | q :: r, 0, p, hs, h => by
    simp only [List.getElem?_cons_zero, Option.some.injEq] at h
    subst h
    exact hs.head
  | q :: r, k + 1, p, hs, h => SpOk.at_ hs.tail (by simpa using h)
theorem SpOk.two : ∀ {iv : List (Int × Int)} {k : Nat} {p q : Int × Int}, SpOk iv → iv[k]? = some p → iv[k + 1]? = some q → p.2 + 1 < q.1
  | [], k, p, q, _, h, _ => by simp at h
  | u :: r, 0, p, q, hs, h, hq => by
    simp only [List.getElem?_cons_zero, Option.some.injEq] at h
    subst h
    exact hs.far q (List.mem_of_getElem? (by simpa using hq))
  | u :: r, k + 1, p, q, hs, h, hq => SpOk.two hs.tail (by simpa using h) (by simpa using hq)
theorem els_app (a b : List (Int × Int)) : els (a ++ b) = els a ++ els b := by unfold els; rw [List.flatMap_append]
theorem els_one (p : Int × Int) : els [p] = seqI p.1 (p.2 - p.1 + 1).toNat := by unfold els; simp
theorem els_take {iv : List (Int × Int)} {k : Nat} {p : Int × Int} (h : iv[k]? = some p) : els (iv.take (k + 1)) = els (iv.take k) ++ seqI p.1 (p.2 - p.1 + 1).toNat := by
  rw [List.take_add_one, h]
  show els (iv.take k ++ [p]) = _
  rw [els_app, els_one]
theorem els_len_ge : ∀ {iv : List (Int × Int)}, SpOk iv → iv.length ≤ (els iv).length
  | [], _ => Nat.le_refl _
  | p :: r, h => by
    have := els_len_ge h.tail
    have := h.head
    show (p :: r).length ≤ (seqI p.1 (p.2 - p.1 + 1).toNat ++ els r).length
    rw [List.length_cons, List.length_append, seqI_len]
    omega

end Go.Proofs.Ytpgefmhjhiemkaa
