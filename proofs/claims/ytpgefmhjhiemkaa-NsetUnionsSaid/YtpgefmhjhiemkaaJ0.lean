/- Runs in plain words: put together, pushed, found, cut. -/
import Derived.Test.YtpgefmhjhiemkaaY6
namespace Go.Proofs.Ytpgefmhjhiemkaa
open Go.RowKit
theorem spOk_iff : ∀ {S : List (Int × Int)}, SpOk S ↔ (∀ p ∈ S, p.1 ≤ p.2) ∧ S.Pairwise (fun p q => p.2 + 1 < q.1)
  | [] => by simp [SpOk]
  | p :: r => by
    constructor
    · intro h
      have ih := spOk_iff.1 h.tail
      refine ⟨fun q hq => ?_, List.pairwise_cons.2 ⟨h.far, ih.2⟩⟩
      rcases List.mem_cons.1 hq with rfl | hq
      · exact h.head
      · exact ih.1 q hq
    · rintro ⟨h1, h2⟩
      obtain ⟨h3, h4⟩ := List.pairwise_cons.1 h2
      have ih := spOk_iff.2 ⟨fun q hq => h1 q (by simp [hq]), h4⟩
      cases r with
      | nil => exact h1 p (by simp)
      | cons q t => exact ⟨h1 p (by simp), h3 q (by simp), ih⟩
theorem SpOk.take {S : List (Int × Int)} (h : SpOk S) (k : Nat) : SpOk (S.take k) :=
  spOk_iff.2 ⟨fun p hp => (spOk_iff.1 h).1 p (List.mem_of_mem_take hp), (spOk_iff.1 h).2.sublist (List.take_sublist _ _)⟩
theorem SpOk.drop {S : List (Int × Int)} (h : SpOk S) (k : Nat) : SpOk (S.drop k) :=
  spOk_iff.2 ⟨fun p hp => (spOk_iff.1 h).1 p (List.mem_of_mem_drop hp), (spOk_iff.1 h).2.sublist (List.drop_sublist _ _)⟩
theorem SpOk.app {A B : List (Int × Int)} (hA : SpOk A) (hB : SpOk B) (h : ∀ p ∈ A, ∀ q ∈ B, p.2 + 1 < q.1) : SpOk (A ++ B) := by
  obtain ⟨a1, a2⟩ := spOk_iff.1 hA
  obtain ⟨b1, b2⟩ := spOk_iff.1 hB
  refine spOk_iff.2 ⟨fun p hp => ?_, List.pairwise_append.2 ⟨a2, b2, h⟩⟩
  rcases List.mem_append.1 hp with hp | hp
  · exact a1 p hp
  · exact b1 p hp
theorem SpOk.one {p : Int × Int} (h : p.1 ≤ p.2) : SpOk [p] := h
theorem els_app_mem {A B : List (Int × Int)} {x : Int} : x ∈ els (A ++ B) ↔ x ∈ els A ∨ x ∈ els B := by rw [els_app, List.mem_append]
theorem els_one_mem {p : Int × Int} {x : Int} : x ∈ els [p] ↔ p.1 ≤ x ∧ x ≤ p.2 := by
  rw [els_mem]
  constructor
  · rintro ⟨q, hq, h⟩
    obtain rfl : q = p := by simpa using hq
    exact h
  · intro h
    exact ⟨p, by simp, h⟩
theorem els_nil_mem {x : Int} : ¬ x ∈ els [] := by simp [els]
theorem els_cons_mem {p : Int × Int} {r : List (Int × Int)} {x : Int} : x ∈ els (p :: r) ↔ (p.1 ≤ x ∧ x ≤ p.2) ∨ x ∈ els r := by
  rw [show p :: r = [p] ++ r from rfl, els_app_mem, els_one_mem]
/-- Of two runs the one that stands ahead ends ahead. -/
theorem SpOk.lt {S : List (Int × Int)} (h : SpOk S) {i j : Nat} {p q : Int × Int} (hi : S[i]? = some p) (hj : S[j]? = some q) (hij : i < j) : p.2 + 1 < q.1 := by
  obtain ⟨h1, rfl⟩ := List.getElem?_eq_some_iff.1 hi
  obtain ⟨h2, rfl⟩ := List.getElem?_eq_some_iff.1 hj
  exact List.pairwise_iff_getElem.1 (spOk_iff.1 h).2 i j h1 h2 hij
theorem SpOk.le {S : List (Int × Int)} (h : SpOk S) {i : Nat} {p : Int × Int} (hi : S[i]? = some p) : p.1 ≤ p.2 := (spOk_iff.1 h).1 p (List.mem_of_getElem? hi)
/-- All is in what a set may hold. -/
def SpIn (S : List (Int × Int)) : Prop := ∀ p ∈ S, 0 ≤ p.1 ∧ p.2 ≤ 1000000
theorem SpIn.of {S : List (Int × Int)} (h : SpOk S) (hE : ∀ x ∈ els S, inS x) : SpIn S := fun p hp => by
  have h1 := (spOk_iff.1 h).1 p hp
  exact ⟨(hE p.1 (els_mem.2 ⟨p, hp, Int.le_refl _, h1⟩)).1, (hE p.2 (els_mem.2 ⟨p, hp, h1, Int.le_refl _⟩)).2⟩
theorem SpIn.els {S : List (Int × Int)} (h : SpIn S) : ∀ x ∈ els S, inS x := fun x hx => by
  obtain ⟨p, hp, h1, h2⟩ := els_mem.1 hx
  have := h p hp
  exact ⟨by omega, by omega⟩
theorem rise_short {E : List Int} {a b : Int} : ∀ (_ : RiseI E) (_ : ∀ x ∈ E, a ≤ x ∧ x ≤ b), (E.length : Int) ≤ max 0 (b - a + 1) := by
  induction E generalizing a with
  | nil => intro _ _; simp only [List.length_nil]; omega
  | cons x r ih =>
    intro h hb
    obtain ⟨h1, h2⟩ := List.pairwise_cons.1 h
    have hx := hb x (by simp)
    have := ih (a := x + 1) h2 fun y hy => ⟨by have := h1 y hy; omega, (hb y (by simp [hy])).2⟩
    rw [List.length_cons]
    omega
theorem SetOk.short {E : List Int} (h : SetOk E) : E.length ≤ 1000001 := by
  have := rise_short (a := 0) (b := 1000000) h.1 h.2
  omega
theorem els_short {S : List (Int × Int)} (h : SpOk S) (k : SpIn S) : (els S).length ≤ 1000001 := SetOk.short ⟨els_rise h, k.els⟩
theorem sp_short {S : List (Int × Int)} (h : SpOk S) (k : SpIn S) : S.length ≤ 1000001 := Nat.le_trans (els_len_ge h) (els_short h k)
/-- A run put behind: joined to the last one where they touch. -/
def pushI (S : List (Int × Int)) (x : Int × Int) : List (Int × Int) :=
  match S.getLast? with
  | none => [x]
  | some p => if p.2 + 1 < x.1 then S ++ [x] else S.dropLast ++ [(p.1, max p.2 x.2)]
theorem pushI_nil (x : Int × Int) : pushI [] x = [x] := rfl
theorem pushI_snoc (S : List (Int × Int)) (p x : Int × Int) : pushI (S ++ [p]) x = if p.2 + 1 < x.1 then S ++ [p] ++ [x] else S ++ [(p.1, max p.2 x.2)] := by
  unfold pushI
  rw [List.getLast?_append]
  simp
theorem snoc_of {α : Type} {S : List α} (h : S ≠ []) : ∃ T p, S = T ++ [p] := ⟨S.dropLast, S.getLast h, (List.dropLast_concat_getLast h).symm⟩
theorem pushI_len_le (S : List (Int × Int)) (x : Int × Int) : (pushI S x).length ≤ S.length + 1 := by
  by_cases h : S = []
  · subst h; simp [pushI_nil]
  · obtain ⟨T, p, rfl⟩ := snoc_of h
    rw [pushI_snoc]
    split <;> simp
/-- Where all stands ahead of x's beginning, or its last run begins no later. -/
theorem pushI_ok {S : List (Int × Int)} {x : Int × Int} (h : SpOk S) (hx : x.1 ≤ x.2) (hl : ∀ p ∈ S, p.1 ≤ x.1) :
    SpOk (pushI S x) ∧ (∀ z, z ∈ els (pushI S x) ↔ z ∈ els S ∨ (x.1 ≤ z ∧ z ≤ x.2)) ∧ ∀ p ∈ pushI S x, p.1 ≤ x.1 := by
  by_cases h0 : S = []
  · subst h0
    rw [pushI_nil]
    exact ⟨SpOk.one hx, fun z => by rw [els_one_mem]; simp [els], fun p hp => by
      rcases List.mem_singleton.1 hp with rfl
      exact Int.le_refl _⟩
  · obtain ⟨T, p, rfl⟩ := snoc_of h0
    obtain ⟨h1, h2⟩ := spOk_iff.1 h
    have hT : SpOk T := by have := h.take T.length; rwa [List.take_left'] at this; rfl
    have hTp : ∀ q ∈ T, q.2 + 1 < p.1 := fun q hq => (List.pairwise_append.1 h2).2.2 q hq p (by simp)
    have hp := h1 p (by simp)
    have hpx := hl p (by simp)
    rw [pushI_snoc]
    split
    · rename_i hc
      refine ⟨h.app (SpOk.one hx) fun q hq r hr => ?_, fun z => by rw [els_app_mem, els_one_mem], fun q hq => ?_⟩
      · obtain rfl : r = x := by simpa using hr
        rcases List.mem_append.1 hq with hq | hq
        · have := hTp q hq; omega
        · obtain rfl : q = p := by simpa using hq
          exact hc
      · rcases List.mem_append.1 hq with hq | hq
        · exact hl q hq
        · obtain rfl : q = x := by simpa using hq
          exact Int.le_refl _
    · rename_i hc
      have hm : p.1 ≤ max p.2 x.2 := by omega
      refine ⟨hT.app (SpOk.one hm) fun q hq r hr => ?_, fun z => ?_, fun q hq => ?_⟩
      · obtain rfl : r = (p.1, max p.2 x.2) := by simpa using hr
        exact hTp q hq
      · rw [els_app_mem, els_app_mem, els_one_mem, els_one_mem]
        constructor
        · rintro (h | ⟨h3, h4⟩)
          · exact .inl (.inl h)
          · simp only at h3 h4
            by_cases hz : z ≤ p.2
            · exact .inl (.inr ⟨h3, hz⟩)
            · exact .inr ⟨by omega, by omega⟩
        · rintro ((h | ⟨h3, h4⟩) | ⟨h3, h4⟩)
          · exact .inl h
          · exact .inr ⟨h3, by simp only; omega⟩
          · exact .inr ⟨by simp only; omega, by simp only; omega⟩
      · rcases List.mem_append.1 hq with hq | hq
        · exact hl q (by simp [hq])
        · obtain rfl : q = (p.1, max p.2 x.2) := by simpa using hq
          exact hpx
theorem pushI_in {S : List (Int × Int)} {x : Int × Int} (h : SpIn S) (hx : 0 ≤ x.1 ∧ x.2 ≤ 1000000) : SpIn (pushI S x) := by
  by_cases h0 : S = []
  · subst h0
    intro p hp
    obtain rfl : p = x := by simpa [pushI_nil] using hp
    exact hx
  · obtain ⟨T, p, rfl⟩ := snoc_of h0
    have hp := h p (by simp)
    rw [pushI_snoc]
    split
    · intro q hq
      rcases List.mem_append.1 hq with hq | hq
      · exact h q hq
      · obtain rfl : q = x := by simpa using hq
        exact hx
    · intro q hq
      rcases List.mem_append.1 hq with hq | hq
      · exact h q (by simp [hq])
      · obtain rfl : q = (p.1, max p.2 x.2) := by simpa using hq
        exact ⟨hp.1, by simp only; omega⟩
/-- Where the first run stands that doesn't end below n. -/
structure Fnd (S : List (Int × Int)) (n : Int) (i : Nat) : Prop where
  le : i ≤ S.length
  lo : ∀ (j : Nat) (p : Int × Int), S[j]? = some p → j < i → p.2 < n
  hi : ∀ (j : Nat) (p : Int × Int), S[j]? = some p → i ≤ j → n ≤ p.2
theorem Fnd.same {S : List (Int × Int)} {n : Int} {i k : Nat} (h : Fnd S n i) (g : Fnd S n k) : i = k := by
  have h1 := h.le
  have h2 := g.le
  rcases Nat.lt_trichotomy i k with e | e | e
  · have hx := List.getElem?_eq_getElem (show i < S.length by omega)
    have := g.lo i _ hx e
    have := h.hi i _ hx (Nat.le_refl _)
    omega
  · exact e
  · have hx := List.getElem?_eq_getElem (show k < S.length by omega)
    have := h.lo k _ hx e
    have := g.hi k _ hx (Nat.le_refl _)
    omega
/-- All of x is in. -/
def covB (S : List (Int × Int)) (x : Int × Int) : Bool := S.any fun p => decide (p.1 ≤ x.1 ∧ x.2 ≤ p.2)
theorem covB_at {S : List (Int × Int)} {x : Int × Int} {i : Nat} (h : SpOk S) (hx : x.1 ≤ x.2) (hf : Fnd S x.1 i) : covB S x = true ↔ ∃ p, S[i]? = some p ∧ p.1 ≤ x.1 ∧ x.2 ≤ p.2 := by
  unfold covB
  rw [List.any_eq_true]
  constructor
  · rintro ⟨p, hp, hc⟩
    have hc := of_decide_eq_true hc
    obtain ⟨j, hj⟩ := List.mem_iff_getElem?.1 hp
    have hjl := (List.getElem?_eq_some_iff.1 hj).1
    rcases Nat.lt_trichotomy i j with e | e | e
    · have hx' := List.getElem?_eq_getElem (show i < S.length by omega)
      have h1 := hf.hi i _ hx' (Nat.le_refl _)
      have h2 := h.lt hx' hj e
      omega
    · subst e; exact ⟨p, hj, hc⟩
    · have := hf.lo j p hj e
      omega
  · rintro ⟨p, hp, hc⟩
    exact ⟨p, List.mem_of_getElem? hp, decide_eq_true hc⟩
theorem covB_iff {S : List (Int × Int)} {x : Int × Int} (h : SpOk S) (hx : x.1 ≤ x.2) : covB S x = true ↔ ∀ z, x.1 ≤ z → z ≤ x.2 → z ∈ els S := by
  unfold covB
  rw [List.any_eq_true]
  constructor
  · rintro ⟨p, hp, hc⟩ z h1 h2
    have hc := of_decide_eq_true hc
    exact els_mem.2 ⟨p, hp, by omega, by omega⟩
  · intro hh
    obtain ⟨p, hp, h1, h2⟩ := els_mem.1 (hh x.1 (Int.le_refl _) hx)
    refine ⟨p, hp, decide_eq_true ⟨h1, ?_⟩⟩
    refine Decidable.byContradiction fun hn => ?_
    obtain ⟨q, hq, h3, h4⟩ := els_mem.1 (hh (p.2 + 1) (by omega) (by omega))
    obtain ⟨i, hi⟩ := List.mem_iff_getElem?.1 hp
    obtain ⟨j, hj⟩ := List.mem_iff_getElem?.1 hq
    rcases Nat.lt_trichotomy i j with e | e | e
    · have := h.lt hi hj e; omega
    · subst e
      rw [hi] at hj
      injection hj with hj
      subst hj
      omega
    · have := h.lt hj hi e
      have := h.le hi
      omega
theorem covB_one {S : List (Int × Int)} {n : Int} (h : SpOk S) : covB S (n, n) = decide (n ∈ els S) := by
  rw [Bool.eq_iff_iff, covB_iff h (Int.le_refl _), decide_eq_true_eq]
  constructor
  · intro hh; exact hh n (Int.le_refl _) (Int.le_refl _)
  · intro hh z h1 h2
    obtain rfl : z = n := by simp only at h1 h2; omega
    exact hh

end Go.Proofs.Ytpgefmhjhiemkaa
