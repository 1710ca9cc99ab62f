/- Groups of numbers in plain words: the least one of each number's group. -/
import Derived.Test.YtneehdjaaofjaaaY1
namespace Go.Proofs.Ytneehdjaaofjaaa
open Go.RowKit
/-- Each number's label is no greater, and is its own label. -/
def GOk (g : List Nat) : Prop := ∀ (i k : Nat), g[i]? = some k → k ≤ i ∧ g[k]? = some k
def relab (x y : Nat) (g : List Nat) : List Nat := g.map fun k => if k = y then x else k
theorem relab_len (x y : Nat) (g : List Nat) : (relab x y g).length = g.length := List.length_map _
theorem relab_at (x y : Nat) (g : List Nat) (i : Nat) : (relab x y g)[i]? = (g[i]?).map fun k => if k = y then x else k := List.getElem?_map ..
theorem range_ok (n : Nat) : GOk (List.range n) := fun i k h => by
  obtain ⟨hi, rfl⟩ := List.getElem?_eq_some_iff.1 h
  rw [List.getElem_range]
  exact ⟨Nat.le_refl _, by rw [List.getElem?_range (by simpa using hi)]⟩
theorem relab_ok {x y : Nat} {g : List Nat} (h : GOk g) (hx : g[x]? = some x) (hxy : x < y) : GOk (relab x y g) := fun i k hk => by
  rw [relab_at] at hk
  obtain ⟨k0, h0, rfl⟩ := Option.map_eq_some_iff.1 hk
  obtain ⟨h1, h2⟩ := h i k0 h0
  by_cases e : k0 = y
  · rw [if_pos e, relab_at, hx]
    exact ⟨by omega, by rw [Option.map_some, if_neg (by omega)]⟩
  · rw [if_neg e, relab_at, h2]
    exact ⟨h1, by rw [Option.map_some, if_neg e]⟩
/-- Where x and y are made one: who is alike then. -/
theorem relab_same {x y : Nat} {g : List Nat} {i j k l : Nat} (hi : g[i]? = some k) (hj : g[j]? = some l) : (relab x y g)[i]? = (relab x y g)[j]? ↔ k = l ∨ ((k = x ∨ k = y) ∧ (l = x ∨ l = y)) := by
  rw [relab_at, relab_at, hi, hj]
  simp only [Option.map_some, Option.some.injEq]
  split <;> split <;> omega
/-- All pairs are alike. -/
def Shut (n : Nat) (ps : List (Nat × Nat)) (f : Nat → Nat) : Prop := ∀ p ∈ ps, p.1 < n → p.2 < n → f p.1 = f p.2
/-- Just what the pairs ask is alike. -/
structure GIs (n : Nat) (ps : List (Nat × Nat)) (g : List Nat) : Prop where
  len : g.length = n
  ok : GOk g
  shut : Shut n ps fun i => g.getD i 0
  least : ∀ f, Shut n ps f → ∀ (i j k : Nat), g[i]? = some k → g[j]? = some k → f i = f j
theorem getD_of {g : List Nat} {i k : Nat} (h : g[i]? = some k) : g.getD i 0 = k := by rw [List.getD, h]; rfl
theorem GIs.first (n : Nat) : GIs n [] (List.range n) where
  len := List.length_range
  ok := range_ok n
  shut := fun p h => by cases h
  least := fun f _ i j k hi hj => by
    obtain ⟨h1, e1⟩ := List.getElem?_eq_some_iff.1 hi
    obtain ⟨h2, e2⟩ := List.getElem?_eq_some_iff.1 hj
    rw [List.getElem_range] at e1 e2
    rw [e1, e2]
theorem GIs.at_ {n : Nat} {ps : List (Nat × Nat)} {g : List Nat} (h : GIs n ps g) {i : Nat} (hi : i < n) : ∃ k, g[i]? = some k ∧ k ≤ i ∧ g[k]? = some k ∧ k < n := by
  have hg := List.getElem?_eq_getElem (show i < g.length by rw [h.len]; exact hi)
  obtain ⟨h1, h2⟩ := h.ok i _ hg
  exact ⟨_, hg, h1, h2, by omega⟩
/-- A pair that is alike already, or lies beyond. -/
theorem GIs.idle {n : Nat} {ps : List (Nat × Nat)} {g : List Nat} (h : GIs n ps g) (p : Nat × Nat) (hp : p.1 < n → p.2 < n → g[p.1]? = g[p.2]?) : GIs n (ps ++ [p]) g where
  len := h.len
  ok := h.ok
  shut := fun q hq h1 h2 => by
    rcases List.mem_append.1 hq with hq | hq
    · exact h.shut q hq h1 h2
    · obtain rfl := List.mem_singleton.1 hq
      show g.getD _ 0 = g.getD _ 0
      rw [List.getD, List.getD, hp h1 h2]
  least := fun f hf => h.least f fun q hq => hf q (List.mem_append_left _ hq)
/-- Two groups made one. -/
theorem GIs.join {n : Nat} {ps : List (Nat × Nat)} {g : List Nat} (h : GIs n ps g) {a b x y : Nat} (ha : g[a]? = some x) (hb : g[b]? = some y) (hxy : x ≠ y) : GIs n (ps ++ [(a, b)]) (relab (min x y) (max x y) g) := by
  have hx := h.ok a x ha
  have hy := h.ok b y hb
  have hm : g[min x y]? = some (min x y) := by
    rcases Nat.le_total x y with e | e
    · rw [Nat.min_eq_left e]; exact hx.2
    · rw [Nat.min_eq_right e]; exact hy.2
  have hlt : min x y < max x y := by omega
  have same : ∀ {i j k l : Nat}, g[i]? = some k → g[j]? = some l → ((relab (min x y) (max x y) g)[i]? = (relab (min x y) (max x y) g)[j]? ↔ k = l ∨ ((k = x ∨ k = y) ∧ (l = x ∨ l = y))) := fun hi hj => by
    rw [relab_same hi hj]
    constructor
    · rintro (e | ⟨e1, e2⟩)
      · exact .inl e
      · exact .inr ⟨by omega, by omega⟩
    · rintro (e | ⟨e1, e2⟩)
      · exact .inl e
      · exact .inr ⟨by omega, by omega⟩
  refine ⟨(relab_len _ _ _).trans h.len, relab_ok h.ok hm hlt, fun q hq h1 h2 => ?_, fun f hf i j k hi hj => ?_⟩
  · obtain ⟨k, hk, _⟩ := h.at_ h1
    obtain ⟨l, hl, _⟩ := h.at_ h2
    have e : (relab (min x y) (max x y) g)[q.1]? = (relab (min x y) (max x y) g)[q.2]? := by
      refine (same hk hl).2 ?_
      rcases List.mem_append.1 hq with hq | hq
      · left
        have e0 : g.getD q.1 0 = g.getD q.2 0 := h.shut q hq h1 h2
        rw [getD_of hk, getD_of hl] at e0
        exact e0
      · obtain rfl := List.mem_singleton.1 hq
        have e1 : k = x := by rw [hk] at ha; injection ha
        have e2 : l = y := by rw [hl] at hb; injection hb
        exact .inr ⟨.inl e1, .inr e2⟩
    show List.getD _ _ 0 = List.getD _ _ 0
    rw [List.getD, List.getD, e]
  · have hf0 : Shut n ps f := fun q hq => hf q (List.mem_append_left _ hq)
    have han : a < n := by have := (List.getElem?_eq_some_iff.1 ha).1; rw [h.len] at this; exact this
    have hbn : b < n := by have := (List.getElem?_eq_some_iff.1 hb).1; rw [h.len] at this; exact this
    have fab : f a = f b := hf (a, b) (by simp) han hbn
    have e := hi.trans hj.symm
    rw [relab_at] at hi hj
    obtain ⟨k1, g1, _⟩ := Option.map_eq_some_iff.1 hi
    obtain ⟨k2, g2, _⟩ := Option.map_eq_some_iff.1 hj
    have fx : ∀ {i k : Nat}, g[i]? = some k → (k = x ∨ k = y) → f i = f a := fun hgi hk => by
      rcases hk with rfl | rfl
      · exact h.least f hf0 _ _ _ hgi ha
      · exact (h.least f hf0 _ _ _ hgi hb).trans fab.symm
    rcases (same g1 g2).1 e with e | ⟨e1, e2⟩
    · subst e
      exact h.least f hf0 _ _ _ g1 g2
    · exact (fx g1 e1).trans (fx g2 e2).symm
/-- The groups hang on nothing but which pairs there are. -/
theorem GIs.same {n : Nat} {ps qs : List (Nat × Nat)} {g h : List Nat} (hg : GIs n ps g) (hh : GIs n qs h) (e : ∀ f, Shut n ps f ↔ Shut n qs f) : g = h := by
  refine List.ext_getElem? fun i => ?_
  by_cases hi : i < n
  · obtain ⟨k, a1, a2, a3, a4⟩ := hg.at_ hi
    obtain ⟨l, b1, b2, b3, b4⟩ := hh.at_ hi
    have h1 : h[i]? = h[k]? := by
      have := hg.least (fun i => h.getD i 0) ((e _).2 hh.shut) i k k a1 a3
      obtain ⟨l', c1, _⟩ := hh.at_ a4
      rw [b1, c1]
      simp only [getD_of b1, getD_of c1] at this
      rw [this]
    have h2 : g[i]? = g[l]? := by
      have := hh.least (fun i => g.getD i 0) ((e _).1 hg.shut) i l l b1 b3
      obtain ⟨k', c1, _⟩ := hg.at_ b4
      rw [a1, c1]
      simp only [getD_of a1, getD_of c1] at this
      rw [this]
    have e1 : l ≤ k := by
      rw [b1] at h1
      exact (hh.ok k l h1.symm).1
    have e2 : k ≤ l := by
      rw [a1] at h2
      exact (hg.ok l k h2.symm).1
    rw [a1, b1]
    congr 1
    omega
  · rw [List.getElem?_eq_none (by rw [hg.len]; omega), List.getElem?_eq_none (by rw [hh.len]; omega)]
/-- How many numbers below n. -/
def cntP (p : Nat → Bool) : Nat → Nat
  | 0 => 0
  | n + 1 => cntP p n + if p n = true then 1 else 0
theorem cntP_congr {p q : Nat → Bool} : ∀ {n : Nat}, (∀ i, i < n → p i = q i) → cntP p n = cntP q n
  | 0, _ => rfl
  | n + 1, h => by
    rw [cntP, cntP, cntP_congr fun i hi => h i (by omega), h n (by omega)]
theorem cntP_one {p q : Nat → Bool} {y : Nat} (hp : p y = true) (hq : q y = false) : ∀ {n : Nat}, y < n → (∀ i, i < n → i ≠ y → p i = q i) → cntP p n = cntP q n + 1
  | 0, h, _ => by omega
  | n + 1, h, hh => by
    rw [cntP, cntP]
    by_cases e : y = n
    · subst e
      rw [cntP_congr fun i hi => hh i (by omega) (by omega), hp, hq]
      simp
    · rw [cntP_one hp hq (n := n) (by omega) fun i hi => hh i (by omega), hh n (by omega) (by omega)]
      omega
def cntG (g : List Nat) : Nat := cntP (fun i => decide (g[i]? = some i)) g.length
def sizG (g : List Nat) (t : Nat) : Nat := cntP (fun i => decide (g[i]? = some t)) g.length
theorem cntG_join {x y : Nat} {g : List Nat} (hx : g[x]? = some x) (hy : g[y]? = some y) (hxy : x < y) : cntG g = cntG (relab x y g) + 1 := by
  unfold cntG
  rw [relab_len]
  have hyl := (List.getElem?_eq_some_iff.1 hy).1
  refine cntP_one (y := y) (decide_eq_true hy) (decide_eq_false ?_) hyl fun i hi hiy => ?_
  · rw [relab_at, hy, Option.map_some, if_pos rfl]
    intro e
    injection e with e
    omega
  · have hg := List.getElem?_eq_getElem hi
    generalize g[i] = k at hg
    rw [relab_at, hg, Option.map_some]
    rw [decide_eq_decide]
    by_cases e : k = y
    · rw [if_pos e]
      constructor
      · intro e2; injection e2 with e2; omega
      · intro e2
        injection e2 with e2
        subst e2
        rw [hx] at hg
        injection hg with hg
        omega
    · rw [if_neg e]
def sumF (f : Nat → Nat) : Nat → Nat
  | 0 => 0
  | n + 1 => sumF f n + f n
theorem sumF_congr {f g : Nat → Nat} : ∀ {n : Nat}, (∀ i, i < n → f i = g i) → sumF f n = sumF g n
  | 0, _ => rfl
  | n + 1, h => by rw [sumF, sumF, sumF_congr fun i hi => h i (by omega), h n (by omega)]
theorem sumF_add (f g : Nat → Nat) : ∀ n : Nat, sumF (fun i => f i + g i) n = sumF f n + sumF g n
  | 0 => rfl
  | n + 1 => by rw [sumF, sumF_add f g n, sumF, sumF]; omega
theorem sumF_zero : ∀ n : Nat, sumF (fun _ => 0) n = 0
  | 0 => rfl
  | n + 1 => by rw [sumF, sumF_zero n]
theorem sumF_swap (f : Nat → Nat → Nat) (n : Nat) : ∀ m : Nat, sumF (fun i => sumF (f i) m) n = sumF (fun j => sumF (fun i => f i j) n) m
  | 0 => by
    show sumF (fun _ => 0) n = 0
    exact sumF_zero n
  | m + 1 => by
    show sumF (fun i => sumF (f i) m + f i m) n = _
    rw [sumF_add, sumF_swap f n m]
    rfl
theorem sumF_is (k : Nat) : ∀ n : Nat, sumF (fun t => if t = k then 1 else 0) n = if k < n then 1 else 0
  | 0 => by simp [sumF]
  | n + 1 => by
    rw [sumF, sumF_is k n]
    by_cases h : k < n
    · rw [if_pos h, if_neg (by omega), if_pos (by omega)]
    · by_cases e : n = k
      · rw [if_neg h, if_pos e, if_pos (by omega)]
      · rw [if_neg h, if_neg e, if_neg (by omega)]
theorem cntP_sum (p : Nat → Bool) : ∀ n : Nat, cntP p n = sumF (fun i => if p i = true then 1 else 0) n
  | 0 => rfl
  | n + 1 => by rw [cntP, cntP_sum p n]; rfl
/-- All groups' sizes are all numbers. -/
theorem siz_all {g : List Nat} (h : GOk g) : sumF (fun t => if g[t]? = some t then sizG g t else 0) g.length = g.length := by
  have e1 : sumF (fun t => if g[t]? = some t then sizG g t else 0) g.length = sumF (fun t => sumF (fun i => if g[i]? = some t then 1 else 0) g.length) g.length := by
    refine sumF_congr fun t ht => ?_
    have es : sizG g t = sumF (fun i => if g[i]? = some t then 1 else 0) g.length := by
      unfold sizG
      rw [cntP_sum]
      exact sumF_congr fun i _ => by simp
    by_cases hh : g[t]? = some t
    · rw [if_pos hh, es]
    · rw [if_neg hh]
      refine ((sumF_congr fun i hi => ?_).trans (sumF_zero g.length)).symm
      refine if_neg fun e => hh ?_
      exact (h i t e).2
  rw [e1, sumF_swap]
  have e2 : sumF (fun j => sumF (fun i => if g[j]? = some i then 1 else 0) g.length) g.length = sumF (fun _ => 1) g.length := by
    refine sumF_congr fun j hj => ?_
    have hg := List.getElem?_eq_getElem hj
    generalize g[j] = k at hg
    rw [hg]
    have e3 : sumF (fun i => if (some k : Option Nat) = some i then 1 else 0) g.length = sumF (fun i => if i = k then 1 else 0) g.length := sumF_congr fun i _ => by
      by_cases e : i = k
      · subst e; simp
      · rw [if_neg e, if_neg (fun e' => e (by injection e' with e'; exact e'.symm))]
    rw [e3, sumF_is, if_pos]
    have := (h j k hg).1
    omega
  rw [e2]
  have : ∀ n : Nat, sumF (fun _ => 1) n = n := fun n => by
    induction n with
    | zero => rfl
    | succ n ih => rw [sumF, ih]
  exact this _

end Go.Proofs.Ytneehdjaaofjaaa
