/- Rising lists and their runs, in plain words. -/
import Derived.Test.YtneehdjaaofjaaaY1
namespace Go.Proofs.Ytneehdjaaofjaaa
open Go.RowKit
/-- Two rising lists of the same numbers are the same. -/
theorem rise_ext : ∀ {l m : List Int}, RiseI l → RiseI m → (∀ x, x ∈ l ↔ x ∈ m) → l = m
  | [], [], _, _, _ => rfl
  | [], y :: r, _, _, h => by have := (h y).2 (by simp); simp at this
  | x :: r, [], _, _, h => by have := (h x).1 (by simp); simp at this
  | x :: r, y :: s, hl, hm, h => by
    obtain ⟨h1, h2⟩ := List.pairwise_cons.1 hl
    obtain ⟨h3, h4⟩ := List.pairwise_cons.1 hm
    have e : x = y := by
      rcases List.mem_cons.1 ((h x).1 (by simp)) with e | e
      · exact e
      · rcases List.mem_cons.1 ((h y).2 (by simp)) with e' | e'
        · exact e'.symm
        · have := h3 x e
          have := h1 y e'
          omega
    subst e
    rw [rise_ext h2 h4 fun z => ⟨fun hz => ?_, fun hz => ?_⟩]
    · rcases List.mem_cons.1 ((h z).1 (by simp [hz])) with e | e
      · have := h1 z hz; omega
      · exact e
    · rcases List.mem_cons.1 ((h z).2 (by simp [hz])) with e | e
      · have := h3 z hz; omega
      · exact e
theorem rise_filter {l : List Int} (h : RiseI l) (p : Int → Bool) : RiseI (l.filter p) := List.Pairwise.filter p h
theorem rise_app {l m : List Int} (hl : RiseI l) (hm : RiseI m) (h : ∀ x ∈ l, ∀ y ∈ m, x < y) : RiseI (l ++ m) := List.pairwise_append.2 ⟨hl, hm, h⟩
theorem rise_nodup {l : List Int} (h : RiseI l) : l.Nodup := h.imp fun h e => by omega
/-- A number in what a set may hold. -/
def inS (n : Int) : Prop := 0 ≤ n ∧ n ≤ 1000000
instance (n : Int) : Decidable (inS n) := by unfold inS; infer_instance
theorem addI13_mem {l : List Int} {n x : Int} : x ∈ (addI13 l n).1 ↔ x ∈ l ∨ (x = n ∧ inS n) := by
  unfold addI13 inS
  split
  · rename_i h
    rw [insI_mem]
    constructor
    · rintro (rfl | h')
      · exact .inr ⟨rfl, h.1, h.2.1⟩
      · exact .inl h'
    · rintro (h' | ⟨rfl, _⟩)
      · exact .inr h'
      · exact .inl rfl
  · rename_i h
    constructor
    · exact .inl
    · rintro (h' | ⟨rfl, h1, h2⟩)
      · exact h'
      · exact Decidable.byContradiction fun hn => h ⟨h1, h2, hn⟩
theorem addI13_rise {l : List Int} {n : Int} (h : RiseI l) : RiseI (addI13 l n).1 := by
  unfold addI13
  split
  · rename_i hc
    exact insI_rise h hc.2.2
  · exact h
theorem addI13_new {l : List Int} {n : Int} : (addI13 l n).2 = decide (inS n ∧ n ∉ l) := by
  unfold addI13 inS
  split
  · rename_i h
    exact (decide_eq_true ⟨⟨h.1, h.2.1⟩, h.2.2⟩).symm
  · rename_i h
    exact (decide_eq_false fun hh => h ⟨hh.1.1, hh.1.2, hh.2⟩).symm
/-- Many numbers put in, one by one. -/
def addsI (l m : List Int) : List Int := m.foldl (fun l n => (addI13 l n).1) l
theorem addsI_snoc (l m : List Int) (n : Int) : addsI l (m ++ [n]) = (addI13 (addsI l m) n).1 := by simp [addsI]
theorem addsI_mem {m : List Int} : ∀ {l : List Int} {x : Int}, x ∈ addsI l m ↔ x ∈ l ∨ (x ∈ m ∧ inS x) := by
  induction m with
  | nil => intro l x; simp [addsI]
  | cons n r ih =>
    intro l x
    show x ∈ addsI (addI13 l n).1 r ↔ _
    rw [ih, addI13_mem]
    constructor
    · rintro ((h | ⟨rfl, h⟩) | ⟨h, h'⟩)
      · exact .inl h
      · exact .inr ⟨by simp, h⟩
      · exact .inr ⟨by simp [h], h'⟩
    · rintro (h | ⟨h, h'⟩)
      · exact .inl (.inl h)
      · rcases List.mem_cons.1 h with rfl | h
        · exact .inl (.inr ⟨rfl, h'⟩)
        · exact .inr ⟨h, h'⟩
theorem addsI_rise {m : List Int} : ∀ {l : List Int}, RiseI l → RiseI (addsI l m) := by
  induction m with
  | nil => intro l h; exact h
  | cons n r ih => intro l h; exact ih (addI13_rise h)
/-- n numbers from a on. -/
def seqI (a : Int) (n : Nat) : List Int := (List.range n).map fun (i : Nat) => a + (i : Int)
theorem seqI_len (a : Int) (n : Nat) : (seqI a n).length = n := by simp [seqI]
theorem seqI_mem {a : Int} {n : Nat} {x : Int} : x ∈ seqI a n ↔ a ≤ x ∧ x < a + n := by
  unfold seqI
  rw [List.mem_map]
  constructor
  · rintro ⟨i, hi, rfl⟩
    have := List.mem_range.1 hi
    omega
  · rintro ⟨h1, h2⟩
    exact ⟨(x - a).toNat, List.mem_range.2 (by omega), by omega⟩
theorem seqI_rise (a : Int) (n : Nat) : RiseI (seqI a n) := by
  unfold seqI RiseI
  rw [List.pairwise_map]
  exact List.pairwise_lt_range.imp fun h => by omega
theorem seqI_succ (a : Int) (n : Nat) : seqI a (n + 1) = a :: seqI (a + 1) n := by
  unfold seqI
  rw [List.range_succ_eq_map, List.map_cons, List.map_map]
  simp only [Int.natCast_zero, Int.add_zero, List.cons.injEq, true_and]
  refine List.map_congr_left fun i _ => ?_
  simp only [Function.comp_apply]
  omega
/-- Runs that rise and don't touch. -/
def SpOk : List (Int × Int) → Prop
  | [] => True
  | [p] => p.1 ≤ p.2
  | p :: q :: r => p.1 ≤ p.2 ∧ p.2 + 1 < q.1 ∧ SpOk (q :: r)
def els (iv : List (Int × Int)) : List Int := iv.flatMap fun p => seqI p.1 (p.2 - p.1 + 1).toNat
theorem els_mem {iv : List (Int × Int)} {x : Int} : x ∈ els iv ↔ ∃ p ∈ iv, p.1 ≤ x ∧ x ≤ p.2 := by
  unfold els
  rw [List.mem_flatMap]
  constructor
  · rintro ⟨p, hp, hx⟩
    have := seqI_mem.1 hx
    exact ⟨p, hp, by omega, by omega⟩
  · rintro ⟨p, hp, h1, h2⟩
    exact ⟨p, hp, seqI_mem.2 ⟨h1, by omega⟩⟩
theorem SpOk.tail {p : Int × Int} {r : List (Int × Int)} (h : SpOk (p :: r)) : SpOk r := by
  cases r with
  | nil => trivial
  | cons q r => exact h.2.2
theorem SpOk.head {p : Int × Int} {r : List (Int × Int)} (h : SpOk (p :: r)) : p.1 ≤ p.2 := by
  cases r with
  | nil => exact h
  | cons q r => exact h.1
/-- What stands behind a run lies beyond it. -/
theorem SpOk.far : ∀ {p : Int × Int} {r : List (Int × Int)}, SpOk (p :: r) → ∀ q ∈ r, p.2 + 1 < q.1
  | _, [], _, q, hq => by cases hq
  | p, s :: r, h, q, hq => by
    rcases List.mem_cons.1 hq with rfl | hq
    · exact h.2.1
    · have h1 := SpOk.far h.2.2 q hq
      have h2 := SpOk.head h.2.2
      have := h.2.1
      omega
theorem els_rise : ∀ {iv : List (Int × Int)}, SpOk iv → RiseI (els iv)
  | [], _ => List.Pairwise.nil
  | p :: r, h => by
    show RiseI (seqI p.1 _ ++ els r)
    refine rise_app (seqI_rise _ _) (els_rise h.tail) fun x hx y hy => ?_
    obtain ⟨q, hq, h1, _⟩ := els_mem.1 hy
    have := seqI_mem.1 hx
    have := h.far q hq
    have := h.head
    omega
def flatI (iv : List (Int × Int)) : List Int := iv.flatMap fun p => [p.1, p.2]
/-- The runs' ends of a rising list; the number ahead of it is known. -/
def spG (prev : Option Int) : List Int → List Int
  | [] => []
  | x :: r => (if prev.any (fun y => decide (x = y + 1)) = true then [] else [x]) ++ (if r.head?.any (fun y => decide (y = x + 1)) = true then [] else [x]) ++ spG (some x) r
theorem spG_run (a : Int) : ∀ (n : Nat) (r : List Int), (∀ y, r.head? = some y → a + (n : Int) + 1 < y) → spG (some (a - 1)) (seqI a (n + 1) ++ r) = (a + n) :: spG (some (a + n)) r
  | 0, r, hr => by
    have h0 : r.head?.any (fun y => decide (y = a + 1)) = false := by
      cases h : r.head? with
      | none => rfl
      | some y => have := hr y h; simp; omega
    rw [seqI_succ]
    simp [seqI, spG, h0]
  | n + 1, r, hr => by
    have ih := spG_run (a + 1) n r (fun y hy => by have := hr y hy; omega)
    rw [show a + 1 - 1 = a by omega] at ih
    rw [seqI_succ, List.cons_append, spG, ih]
    have e : (seqI (a + 1) (n + 1) ++ r).head? = some (a + 1) := by rw [seqI_succ]; rfl
    have e2 : a + 1 + (n : Int) = a + ((n + 1 : Nat) : Int) := by omega
    rw [e, e2]
    simp
theorem spG_els : ∀ {iv : List (Int × Int)} (prev : Option Int), SpOk iv → (∀ y p, prev = some y → iv.head? = some p → y + 1 < p.1) → spG prev (els iv) = flatI iv
  | [], _, _, _ => rfl
  | p :: r, prev, h, hp => by
    obtain ⟨n, hn⟩ : ∃ n : Nat, p.2 = p.1 + n := ⟨(p.2 - p.1).toNat, by have := h.head; omega⟩
    have e : (p.2 - p.1 + 1).toNat = n + 1 := by omega
    show spG prev (seqI p.1 (p.2 - p.1 + 1).toNat ++ els r) = [p.1, p.2] ++ flatI r
    have hr : ∀ y, (els r).head? = some y → p.1 + (n : Int) + 1 < y := fun y hy => by
      obtain ⟨q, hq, h1, _⟩ := els_mem.1 (List.mem_of_mem_head? (Option.mem_def.2 hy))
      have := h.far q hq
      omega
    have key := spG_run p.1 n (els r) hr
    rw [e]
    have e0 : prev.any (fun y => decide (p.1 = y + 1)) = false := by
      cases prev with
      | none => rfl
      | some y => have := hp y p rfl rfl; simp; omega
    have split : spG prev (seqI p.1 (n + 1) ++ els r) = p.1 :: spG (some (p.1 - 1)) (seqI p.1 (n + 1) ++ els r) := by
      rw [seqI_succ, List.cons_append, spG, spG, e0]
      simp
    rw [split, key, spG_els (some (p.1 + n)) h.tail (fun y q hy hq => by
      injection hy with hy
      have := h.far q (List.mem_of_mem_head? (Option.mem_def.2 hq))
      omega), hn]
    rfl

end Go.Proofs.Ytneehdjaaofjaaa
