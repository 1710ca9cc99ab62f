/- Graphs in plain words: what leads where, groups, an order of them. -/
import Derived.Test.YtneehdjaaofjaaaY3
import Derived.Test.YtneehdjaaofjaaaY4
namespace Go.Proofs.Ytneehdjaaofjaaa
open Go.RowKit
/-- a leads to b along the pairs. -/
inductive Lds (ps : List (Nat × Nat)) (a : Nat) : Nat → Prop
  | refl : Lds ps a a
  | step {b c : Nat} : Lds ps a b → (b, c) ∈ ps → Lds ps a c
theorem Lds.one {ps : List (Nat × Nat)} {a b : Nat} (h : (a, b) ∈ ps) : Lds ps a b := .step .refl h
theorem Lds.trans {ps : List (Nat × Nat)} {a b c : Nat} (h : Lds ps a b) (k : Lds ps b c) : Lds ps a c := by
  induction k with
  | refl => exact h
  | step _ e ih => exact .step ih e
theorem Lds.mono {ps qs : List (Nat × Nat)} (hs : ∀ p ∈ ps, p ∈ qs) {a b : Nat} (h : Lds ps a b) : Lds qs a b := by
  induction h with
  | refl => exact .refl
  | step _ e ih => exact .step ih (hs _ e)
/-- What is shut holds all that its own lead to. -/
theorem Lds.shut {ps : List (Nat × Nat)} {S : Nat → Prop} (hs : ∀ a b, (a, b) ∈ ps → S a → S b) {a b : Nat} (h : Lds ps a b) (ha : S a) : S b := by
  induction h with
  | refl => exact ha
  | step _ e ih => exact hs _ _ e ih
/-- An edge: from, pc, to. -/
structure Edg where
  fr : Int
  pc : Int
  to : Int
deriving DecidableEq
def edgeIn (N : Nat) (e : Edg) : Bool := decide (0 ≤ e.fr ∧ e.fr < (N : Int) ∧ 0 ≤ e.to ∧ e.to < (N : Int))
def prs (N : Nat) (E : List Edg) : List (Nat × Nat) := (E.filter (edgeIn N)).map fun e => (e.fr.toNat, e.to.toNat)
theorem prs_mem {N : Nat} {E : List Edg} {a b : Nat} : (a, b) ∈ prs N E ↔ a < N ∧ b < N ∧ ∃ e ∈ E, e.fr = (a : Int) ∧ e.to = (b : Int) := by
  unfold prs edgeIn
  simp only [List.mem_map, List.mem_filter, decide_eq_true_eq, Prod.mk.injEq]
  constructor
  · rintro ⟨e, ⟨he, h1, h2, h3, h4⟩, h5, h6⟩
    exact ⟨by omega, by omega, e, he, by omega, by omega⟩
  · rintro ⟨ha, hb, e, he, h1, h2⟩
    exact ⟨e, ⟨he, by omega, by omega, by omega, by omega⟩, by omega, by omega⟩
theorem Lds.lt {N : Nat} {E : List Edg} {a b : Nat} (h : Lds (prs N E) a b) (ha : a < N) : b < N := h.shut (S := fun x => x < N) (fun _ _ e _ => (prs_mem.1 e).2.1) ha
/-- Both lead to each other. -/
def Mut (ps : List (Nat × Nat)) (a b : Nat) : Prop := Lds ps a b ∧ Lds ps b a
theorem Mut.refl (ps : List (Nat × Nat)) (a : Nat) : Mut ps a a := ⟨.refl, .refl⟩
theorem Mut.symm {ps : List (Nat × Nat)} {a b : Nat} (h : Mut ps a b) : Mut ps b a := ⟨h.2, h.1⟩
theorem Mut.trans {ps : List (Nat × Nat)} {a b c : Nat} (h : Mut ps a b) (k : Mut ps b c) : Mut ps a c := ⟨h.1.trans k.1, k.2.trans h.2⟩
/-- w is the least one that v and it lead to each other. -/
def Top (ps : List (Nat × Nat)) (v w : Nat) : Prop := Mut ps v w ∧ ∀ u, Mut ps v u → w ≤ u
theorem Top.le {ps : List (Nat × Nat)} {v w : Nat} (h : Top ps v w) : w ≤ v := h.2 v (Mut.refl _ _)
theorem Top.same {ps : List (Nat × Nat)} {v w x : Nat} (h : Top ps v w) (k : Top ps v x) : w = x := Nat.le_antisymm (h.2 x k.1) (k.2 w h.1)
theorem Top.of_mut {ps : List (Nat × Nat)} {u v w : Nat} (h : Top ps v w) (k : Mut ps v u) : Top ps u w := ⟨k.symm.trans h.1, fun x hx => h.2 x (k.trans hx)⟩
theorem Top.own {ps : List (Nat × Nat)} {v w : Nat} (h : Top ps v w) : Top ps w w := h.of_mut h.1
theorem Top.alike {ps : List (Nat × Nat)} {u v w : Nat} (h : Top ps v w) (k : Top ps u w) : Mut ps v u := h.1.trans k.1.symm
/-- The groups of a graph. -/
def IsGr (N : Nat) (ps : List (Nat × Nat)) (g : List Int) : Prop := g.length = N ∧ ∀ v, v < N → ∃ w : Nat, g[v]? = some (w : Int) ∧ Top ps v w
theorem IsGr.same {N : Nat} {ps : List (Nat × Nat)} {g h : List Int} (hg : IsGr N ps g) (hh : IsGr N ps h) : g = h := by
  refine List.ext_getElem? fun i => ?_
  by_cases hi : i < N
  · obtain ⟨w, e, t⟩ := hg.2 i hi
    obtain ⟨x, f, s⟩ := hh.2 i hi
    rw [e, f, t.same s]
  · rw [List.getElem?_eq_none (by rw [hg.1]; omega), List.getElem?_eq_none (by rw [hh.1]; omega)]
/-- What some numbers lead to. -/
def IsRe (N : Nat) (ps : List (Nat × Nat)) (fr r : List Int) : Prop := RiseI r ∧ ∀ x : Int, x ∈ r ↔ ∃ a b : Nat, (a : Int) ∈ fr ∧ a < N ∧ Lds ps a b ∧ x = b
theorem IsRe.same {N : Nat} {ps : List (Nat × Nat)} {fr r s : List Int} (h : IsRe N ps fr r) (k : IsRe N ps fr s) : r = s := rise_ext h.1 k.1 fun x => by rw [h.2, k.2]
/-- No edge from another group whose least one isn't there leads into v's. -/
def FreeO (ps : List (Nat × Nat)) (g : List Int) (d : List Int) (v : Nat) : Prop := ∀ a b, (a, b) ∈ ps → g[b]? = some (v : Int) → g[a]? ≠ some (v : Int) → ∀ x, g[a]? = some x → x ∈ d
def MayO (ps : List (Nat × Nat)) (g : List Int) (d : List Int) (v : Nat) : Prop := g[v]? = some (v : Int) ∧ (v : Int) ∉ d ∧ FreeO ps g d v
def NextO (ps : List (Nat × Nat)) (g : List Int) (d : List Int) (v : Nat) : Prop := MayO ps g d v ∧ ∀ u, u < v → ¬ MayO ps g d u
/-- The order of the groups: the least that may come next. -/
def IsOr (ps : List (Nat × Nat)) (g o : List Int) : Prop := (∀ (k : Nat) (x : Int), o[k]? = some x → ∃ v : Nat, x = v ∧ NextO ps g (o.take k) v) ∧ ∀ v, ¬ MayO ps g o v
theorem NextO.same {ps : List (Nat × Nat)} {g d : List Int} {v w : Nat} (h : NextO ps g d v) (k : NextO ps g d w) : v = w := by
  rcases Nat.lt_trichotomy v w with e | e | e
  · exact absurd h.1 (k.2 v e)
  · exact e
  · exact absurd k.1 (h.2 w e)
theorem IsOr.take {ps : List (Nat × Nat)} {g o q : List Int} (h : IsOr ps g o) (k : IsOr ps g q) : ∀ n, n ≤ o.length → n ≤ q.length ∧ o.take n = q.take n
  | 0, _ => ⟨Nat.zero_le _, by simp⟩
  | n + 1, hn => by
    obtain ⟨h1, h2⟩ := IsOr.take h k n (by omega)
    have hn' : n < o.length := by omega
    obtain ⟨v, e, hv⟩ := h.1 n _ (List.getElem?_eq_getElem hn')
    have hq : n < q.length := by
      refine Decidable.byContradiction fun hc => ?_
      have : q.take n = q := List.take_of_length_le (by omega)
      rw [h2, this] at hv
      exact k.2 v hv.1
    obtain ⟨w, f, hw⟩ := k.1 n _ (List.getElem?_eq_getElem hq)
    rw [h2] at hv
    have hvw := hv.same hw
    refine ⟨by omega, ?_⟩
    rw [List.take_succ_eq_append_getElem hn', List.take_succ_eq_append_getElem hq, h2, e, f, hvw]
theorem IsOr.same {ps : List (Nat × Nat)} {g o q : List Int} (h : IsOr ps g o) (k : IsOr ps g q) : o = q := by
  obtain ⟨h1, h2⟩ := h.take k o.length (Nat.le_refl _)
  obtain ⟨k1, _⟩ := k.take h q.length (Nat.le_refl _)
  rw [List.take_length] at h2
  rw [h2, List.take_of_length_le (by omega)]
/-- How many lead to v. -/
noncomputable def ups (N : Nat) (ps : List (Nat × Nat)) (v : Nat) : Nat := cntP (fun u => @decide (Lds ps u v) (Classical.propDecidable _)) N
theorem cntP_le {p q : Nat → Bool} : ∀ {n : Nat}, (∀ i, i < n → p i = true → q i = true) → cntP p n ≤ cntP q n
  | 0, _ => Nat.le_refl _
  | n + 1, h => by
    rw [cntP, cntP]
    have := cntP_le (n := n) fun i hi => h i (by omega)
    have := h n (by omega)
    split <;> split <;> simp_all <;> omega
theorem cntP_lt {p q : Nat → Bool} {y : Nat} : ∀ {n : Nat}, y < n → (∀ i, i < n → p i = true → q i = true) → p y = false → q y = true → cntP p n < cntP q n
  | 0, h, _, _, _ => by omega
  | n + 1, h, hh, hp, hq => by
    rw [cntP, cntP]
    by_cases e : y = n
    · subst e
      have := cntP_le (p := p) (q := q) (n := y) fun i hi => hh i (by omega)
      rw [hp, hq]
      simp
      omega
    · have := cntP_lt (p := p) (q := q) (n := n) (y := y) (by omega) (fun i hi => hh i (by omega)) hp hq
      have := hh n (by omega)
      split <;> split <;> simp_all <;> omega
theorem ups_lt {N : Nat} {ps : List (Nat × Nat)} {v w : Nat} (hv : v < N) (h : Lds ps w v) (k : ¬ Lds ps v w) : ups N ps w < ups N ps v := by
  unfold ups
  refine cntP_lt hv (fun i _ hi => ?_) ?_ ?_
  · exact @decide_eq_true _ (Classical.propDecidable _) ((@of_decide_eq_true _ (Classical.propDecidable _) hi).trans h)
  · exact @decide_eq_false _ (Classical.propDecidable _) k
  · exact @decide_eq_true _ (Classical.propDecidable _) .refl
/-- Where an order ends all groups are in it. -/
theorem IsOr.all {N : Nat} {E : List Edg} {g o : List Int} (hg : IsGr N (prs N E) g) (h : IsOr (prs N E) g o) : ∀ v, v < N → g[v]? = some (v : Int) → (v : Int) ∈ o := by
  have key : ∀ m v, v < N → ups N (prs N E) v < m → g[v]? = some (v : Int) → (v : Int) ∈ o := by
    intro m
    induction m with
    | zero => intro v _ hm; omega
    | succ m ih =>
      intro v hv hm hgv
      refine Classical.byContradiction fun hn => h.2 v ⟨hgv, hn, fun a b hab hb ha x hx => ?_⟩
      obtain ⟨han, hbn, _⟩ := prs_mem.1 hab
      obtain ⟨w, e1, t1⟩ := hg.2 a han
      obtain ⟨w', e2, t2⟩ := hg.2 b hbn
      rw [hb] at e2
      obtain rfl : v = w' := by injection e2 with e2; omega
      rw [e1] at hx ha
      injection hx with hx
      subst hx
      have hw : w < N := t1.1.1.lt han
      have hl : Lds (prs N E) w v := t1.1.2.trans ((Lds.one hab).trans t2.1.1)
      refine ih w hw ?_ ?_
      · have : ups N (prs N E) w < ups N (prs N E) v := ups_lt hv hl fun hk => ha (by
          have hm : Mut (prs N E) v w := ⟨hk, hl⟩
          have := (t2.own.of_mut hm).same t1.own
          rw [this])
        omega
      · obtain ⟨x, e3, t3⟩ := hg.2 w hw
        rw [e3, t3.same t1.own]
  intro v hv hgv
  exact key _ v hv (Nat.lt_succ_self _) hgv

end Go.Proofs.Ytneehdjaaofjaaa
