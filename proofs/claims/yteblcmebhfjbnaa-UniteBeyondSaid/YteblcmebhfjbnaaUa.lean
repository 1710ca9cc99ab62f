/- Trees of numbers: each node has its parent, and its tree's top has the group's size and least number. Plain words. -/
import Derived.Test.YteblcmebhfjbnaaV0
namespace Go.Proofs.Yteblcmebhfjbnaa
open Go.RowKit
abbrev Nd := Nat × Nat × Nat
structure UF (l : List Nd) (E : List Nat) : Prop where
  len : l.length = E.length
  deep : ∃ d : Nat → Nat, ∀ (i : Nat) (x : Nd), l[i]? = some x → x.1 ≠ i → d x.1 < d i
  par : ∀ (i : Nat) (x : Nd), l[i]? = some x → ∃ k, E[i]? = some k ∧ E[x.1]? = some k
  top : ∀ (i : Nat) (x : Nd), l[i]? = some x → x.1 = i → E[i]? = some x.2.2 ∧ x.2.1 = sizG E x.2.2
  one : ∀ (i j : Nat) (x y : Nd), l[i]? = some x → l[j]? = some y → x.1 = i → y.1 = j → E[i]? = E[j]? → i = j
def ndF (n : Nat) : List Nd := (List.range n).map fun i => (i, 1, i)
theorem ndF_at {n i : Nat} (h : i < n) : (ndF n)[i]? = some (i, 1, i) := by
  unfold ndF
  rw [List.getElem?_map, range_at h]
  rfl
theorem ndF_len (n : Nat) : (ndF n).length = n := by unfold ndF; rw [List.length_map, List.length_range]
theorem ndF_is {n i : Nat} {x : Nd} (h : (ndF n)[i]? = some x) : i < n ∧ x = (i, 1, i) := by
  have hi : i < n := by have := (List.getElem?_eq_some_iff.1 h).1; rwa [ndF_len] at this
  rw [ndF_at hi] at h
  injection h with h
  exact ⟨hi, h.symm⟩
theorem siz_first {n i : Nat} (h : i < n) : sizG (List.range n) i = 1 := by
  unfold sizG
  rw [List.length_range, cntP_congr (q := fun j => decide (j = i)) (fun j hj => by
    have : (decide ((List.range n)[j]? = some i) : Bool) = decide (j = i) := by
      rw [range_at hj]
      by_cases e : j = i <;> simp [e]
    exact this)]
  have h1 := cntP_one (p := fun j => decide (j = i)) (q := fun _ => false) (y := i) (by simp) rfl h (fun j _ hj => by simp [hj])
  rw [h1]
  have h2 : ∀ m : Nat, cntP (fun _ => false) m = 0 := fun m => by
    induction m with
    | zero => rfl
    | succ m ih => rw [cntP, ih]; rfl
  rw [h2]
theorem UF.first (n : Nat) : UF (ndF n) (List.range n) where
  len := by rw [ndF_len, List.length_range]
  deep := ⟨fun _ => 0, fun i x hx hn => by
    obtain ⟨_, rfl⟩ := ndF_is hx
    exact absurd rfl hn⟩
  par := fun i x hx => by
    obtain ⟨hi, rfl⟩ := ndF_is hx
    exact ⟨i, range_at hi, range_at hi⟩
  top := fun i x hx _ => by
    obtain ⟨hi, rfl⟩ := ndF_is hx
    exact ⟨range_at hi, (siz_first hi).symm⟩
  one := fun i j x y hx hy _ _ e => by
    obtain ⟨hi, rfl⟩ := ndF_is hx
    obtain ⟨hj, rfl⟩ := ndF_is hy
    rw [range_at hi, range_at hj] at e
    injection e
theorem cntP_or {p q r : Nat → Bool} : ∀ {n : Nat}, (∀ i, i < n → r i = (p i || q i)) → (∀ i, i < n → ¬ (p i = true ∧ q i = true)) → cntP r n = cntP p n + cntP q n
  | 0, _, _ => rfl
  | n + 1, h, k => by
    have ih := cntP_or (n := n) (fun i hi => h i (by omega)) (fun i hi => k i (by omega))
    have h1 := h n (by omega)
    have h2 := k n (by omega)
    rw [cntP, cntP, cntP, ih, h1]
    cases hp : p n <;> cases hq : q n <;> simp_all <;> omega
theorem siz_join {x y : Nat} {g : List Nat} (hxy : x ≠ y) : sizG (relab x y g) x = sizG g x + sizG g y := by
  unfold sizG
  rw [relab_len]
  refine cntP_or (fun i hi => ?_) (fun i hi => ?_)
  · rw [relab_at, List.getElem?_eq_getElem hi]
    simp only [Option.map_some, Option.some.injEq]
    generalize g[i] = k
    by_cases e : k = y
    · rw [if_pos e]; simp [e]
    · rw [if_neg e]; simp [e]
  · rw [List.getElem?_eq_getElem hi]
    simp only [Option.some.injEq, decide_eq_true_eq]
    omega
theorem siz_else {x y z : Nat} {g : List Nat} (h1 : z ≠ x) (h2 : z ≠ y) : sizG (relab x y g) z = sizG g z := by
  unfold sizG
  rw [relab_len]
  refine cntP_congr fun i hi => ?_
  rw [relab_at, List.getElem?_eq_getElem hi]
  simp only [Option.map_some, Option.some.injEq]
  generalize g[i] = k
  by_cases e : k = y
  · rw [if_pos e]
    have e1 : ¬ x = z := fun h => h1 h.symm
    have e2 : ¬ k = z := by omega
    rw [decide_eq_false e1, decide_eq_false e2]
  · rw [if_neg e]
/-- The nodes when b's tree is hung below a. -/
def hang (l : List Nd) (a b s t x y z : Nat) : List Nd := (l.set b (a, t, y)).set a (a, s + t, min x z)
theorem hang_at {l : List Nd} {a b s t x y z i : Nat} (ha : a < l.length) (hb : b < l.length) (hab : a ≠ b) : (hang l a b s t x y z)[i]? = if i = a then some (a, s + t, min x z) else if i = b then some (a, t, y) else l[i]? := by
  unfold hang
  by_cases h1 : i = a
  · subst h1
    rw [if_pos rfl, List.getElem?_set_self (by rw [List.length_set]; exact ha)]
  · rw [if_neg h1, List.getElem?_set_ne (fun e => h1 e.symm)]
    by_cases h2 : i = b
    · subst h2
      rw [if_pos rfl, List.getElem?_set_self hb]
    · rw [if_neg h2, List.getElem?_set_ne (fun e => h2 e.symm)]
theorem relab_to {x y : Nat} {g : List Nat} {i k : Nat} (h : g[i]? = some k) : (relab x y g)[i]? = some (if k = y then x else k) := by rw [relab_at, h]; rfl
theorem UF.join {l : List Nd} {E : List Nat} (h : UF l E) {a b s t x y : Nat} (ha : l[a]? = some (a, s, x)) (hb : l[b]? = some (b, t, y)) (hab : a ≠ b) :
    UF (hang l a b s t x y y) (relab (min x y) (max x y) E) := by
  have hla := (List.getElem?_eq_some_iff.1 ha).1
  have hlb := (List.getElem?_eq_some_iff.1 hb).1
  obtain ⟨ea, sa⟩ := h.top a _ ha rfl
  obtain ⟨eb, sb⟩ := h.top b _ hb rfl
  dsimp only at ea eb sa sb
  have hxy : x ≠ y := fun e => hab (h.one a b _ _ ha hb rfl rfl (by rw [ea, eb, e]))
  have hat := fun i => hang_at (s := s) (t := t) (x := x) (y := y) (z := y) (i := i) hla hlb hab
  have rx : (relab (min x y) (max x y) E)[a]? = some (min x y) := by
    rw [relab_to ea]
    by_cases e : x = max x y
    · rw [if_pos e]
    · rw [if_neg e]; congr 1; omega
  have ry : (relab (min x y) (max x y) E)[b]? = some (min x y) := by
    rw [relab_to eb]
    by_cases e : y = max x y
    · rw [if_pos e]
    · rw [if_neg e]; congr 1; omega
  -- who is a root still
  have rt : ∀ (i : Nat) (z : Nd), (hang l a b s t x y y)[i]? = some z → z.1 = i → i = a ∧ z = (a, s + t, min x y) ∨ (i ≠ a ∧ i ≠ b ∧ l[i]? = some z) := fun i z hz e => by
    rw [hat] at hz
    by_cases h1 : i = a
    · rw [if_pos h1] at hz
      injection hz with hz
      exact .inl ⟨h1, hz.symm⟩
    · rw [if_neg h1] at hz
      by_cases h2 : i = b
      · rw [if_pos h2] at hz
        injection hz with hz
        rw [← hz] at e
        exact absurd (e.symm) h1
      · rw [if_neg h2] at hz
        exact .inr ⟨h1, h2, hz⟩
  -- another root's label is neither
  have far : ∀ (i : Nat) (z : Nd), i ≠ a → i ≠ b → l[i]? = some z → z.1 = i → E[i]? = some z.2.2 ∧ z.2.1 = sizG E z.2.2 ∧ z.2.2 ≠ x ∧ z.2.2 ≠ y := fun i z h1 h2 hz e => by
    obtain ⟨e1, e2⟩ := h.top i z hz e
    exact ⟨e1, e2, fun e3 => h1 (h.one i a _ _ hz ha e rfl (by rw [e1, ea, e3])), fun e3 => h2 (h.one i b _ _ hz hb e rfl (by rw [e1, eb, e3]))⟩
  refine ⟨?_, ?_, ?_, ?_, ?_⟩
  · unfold hang
    rw [List.length_set, List.length_set, relab_len, h.len]
  · obtain ⟨d, hd⟩ := h.deep
    refine ⟨fun i => if E[i]? = some y then d i + d a + 1 else d i, fun i z hz hne => ?_⟩
    have hna : ¬ E[a]? = some y := by rw [ea]; intro e; injection e with e; exact hxy e
    rw [hat] at hz
    by_cases h1 : i = a
    · rw [if_pos h1] at hz
      injection hz with hz
      rw [← hz] at hne
      exact absurd h1.symm hne
    · rw [if_neg h1] at hz
      by_cases h2 : i = b
      · rw [if_pos h2] at hz
        injection hz with hz
        rw [← hz, h2]
        dsimp only
        rw [if_pos eb, if_neg hna]
        omega
      · rw [if_neg h2] at hz
        have h3 := hd i z hz hne
        obtain ⟨k, e1, e2⟩ := h.par i z hz
        dsimp only
        rw [e1, e2]
        split <;> omega
  · intro i z hz
    rw [hat] at hz
    by_cases h1 : i = a
    · rw [if_pos h1] at hz
      injection hz with hz
      rw [← hz, h1]
      exact ⟨_, rx, rx⟩
    · rw [if_neg h1] at hz
      by_cases h2 : i = b
      · rw [if_pos h2] at hz
        injection hz with hz
        rw [← hz, h2]
        exact ⟨_, ry, rx⟩
      · rw [if_neg h2] at hz
        obtain ⟨k, e1, e2⟩ := h.par i z hz
        exact ⟨_, relab_to e1, relab_to e2⟩
  · intro i z hz e
    rcases rt i z hz e with ⟨rfl, rfl⟩ | ⟨h1, h2, h3⟩
    · refine ⟨rx, ?_⟩
      dsimp only
      rw [siz_join (by omega), sa, sb]
      rcases Nat.le_total x y with e | e
      · rw [Nat.min_eq_left e, Nat.max_eq_right e]
      · rw [Nat.min_eq_right e, Nat.max_eq_left e, Nat.add_comm]
    · obtain ⟨e1, e2, e3, e4⟩ := far i z h1 h2 h3 e
      refine ⟨by rw [relab_to e1, if_neg (by omega)], ?_⟩
      rw [siz_else (by omega) (by omega)]
      exact e2
  · intro i j u v hu hv e1 e2 e
    rcases rt i u hu e1 with ⟨rfl, rfl⟩ | ⟨h1, h2, h3⟩
    · rcases rt j v hv e2 with ⟨rfl, rfl⟩ | ⟨k1, k2, k3⟩
      · rfl
      · obtain ⟨f1, _, f3, f4⟩ := far j v k1 k2 k3 e2
        rw [rx, relab_to f1, if_neg (by omega)] at e
        injection e with e
        omega
    · obtain ⟨g1, _, g3, g4⟩ := far i u h1 h2 h3 e1
      rcases rt j v hv e2 with ⟨rfl, rfl⟩ | ⟨k1, k2, k3⟩
      · rw [rx, relab_to g1, if_neg (by omega)] at e
        injection e with e
        omega
      · obtain ⟨f1, _, f3, f4⟩ := far j v k1 k2 k3 e2
        rw [relab_to g1, relab_to f1, if_neg (by omega), if_neg (by omega)] at e
        exact h.one i j u v h3 k3 e1 e2 (by rw [g1, f1]; exact e)
theorem siz_le (g : List Nat) (t : Nat) : sizG g t ≤ g.length := by
  unfold sizG
  have : ∀ (p : Nat → Bool) (n : Nat), cntP p n ≤ n := fun p n => by
    induction n with
    | zero => exact Nat.le_refl _
    | succ n ih => rw [cntP]; split <;> omega
  exact this _ _
/-- A number's label, and where its tree's top is. -/
theorem UF.label {l : List Nd} {E : List Nat} (h : UF l E) {i : Nat} (hi : i < E.length) : ∃ x k, l[i]? = some x ∧ E[i]? = some k := by
  have hl : i < l.length := by rw [h.len]; exact hi
  exact ⟨_, _, List.getElem?_eq_getElem hl, List.getElem?_eq_getElem hi⟩

end Go.Proofs.Yteblcmebhfjbnaa
