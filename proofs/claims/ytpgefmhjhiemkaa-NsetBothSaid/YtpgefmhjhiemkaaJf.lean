/- Add. -/
import Derived.Test.YtpgefmhjhiemkaaJe
import Derived.Deep.RegionWith
namespace Go.Proofs.Ytpgefmhjhiemkaa
open Go.RowKit
theorem add_put {S : List (Int × Int)} {n f t : Int} {i j : Nat} (hS : SpOk S) (hij : i ≤ j) (hfn : f ≤ n) (hnt : n ≤ t)
    (hL : ∀ p ∈ S.take i, p.2 + 1 < f) (hR : ∀ q ∈ S.drop j, t + 1 < q.1) (hM : ∀ z, (f ≤ z ∧ z ≤ t) ↔ (z = n ∨ z ∈ els ((S.take j).drop i))) :
    SpOk (S.take i ++ [(f, t)] ++ S.drop j) ∧ ∀ z, z ∈ els (S.take i ++ [(f, t)] ++ S.drop j) ↔ z ∈ els S ∨ z = n := by
  have hft : f ≤ t := by omega
  refine ⟨((hS.take i).app (SpOk.one hft) fun p hp q hq => ?_).app (hS.drop j) fun p hp q hq => ?_, fun z => ?_⟩
  · obtain rfl := List.mem_singleton.1 hq
    exact hL p hp
  · rcases List.mem_append.1 hp with hp | hp
    · have := hL p hp
      have := hR q hq
      omega
    · obtain rfl := List.mem_singleton.1 hp
      exact hR q hq
  · have e1 : els S = els (S.take i) ++ els ((S.take j).drop i) ++ els (S.drop j) := by
      rw [← els_app, ← els_app]
      congr 1
      conv => lhs; rw [← List.take_append_drop j S]
      congr 1
      conv => lhs; rw [← List.take_append_drop i (S.take j)]
      rw [List.take_take, Nat.min_eq_left hij]
    rw [els_app_mem, els_app_mem, els_one_mem, e1, List.mem_append, List.mem_append, hM z]
    constructor
    · rintro ((h | h | h) | h)
      · exact .inl (.inl (.inl h))
      · exact .inr h
      · exact .inl (.inl (.inr h))
      · exact .inl (.inr h)
    · rintro (((h | h) | h) | h)
      · exact .inl (.inl h)
      · exact .inl (.inr (.inr h))
      · exact .inr h
      · exact .inl (.inr (.inl h))
theorem drop_take_one {α : Type} {S : List α} {i : Nat} {p : α} (h : S[i]? = some p) : (S.take (i + 1)).drop i = [p] := by
  rw [List.take_add_one, h, List.drop_append]
  have := (List.getElem?_eq_some_iff.1 h).1
  rw [List.drop_eq_nil_of_le (by rw [List.length_take]; omega), List.length_take, Nat.min_eq_left (by omega), Nat.sub_self]
  rfl
theorem drop_take_two {α : Type} {S : List α} {i : Nat} {p q : α} (h : S[i]? = some p) (k : S[i + 1]? = some q) : (S.take (i + 2)).drop i = [p, q] := by
  rw [List.take_add_one, k, List.drop_append, drop_take_one h]
  have := (List.getElem?_eq_some_iff.1 k).1
  rw [List.length_take, Nat.min_eq_left (by omega), show i - (i + 1) = 0 by omega]
  rfl
theorem drop_far {S : List (Int × Int)} {j : Nat} {t : Int} (hS : SpOk S) (h : ∀ q, S[j]? = some q → t + 1 < q.1) : ∀ q ∈ S.drop j, t + 1 < q.1 := fun q hq => by
  obtain ⟨k, hk⟩ := List.mem_iff_getElem?.1 hq
  rw [List.getElem?_drop] at hk
  have hl := (List.getElem?_eq_some_iff.1 hk).1
  have hx := List.getElem?_eq_getElem (show j < S.length by omega)
  have h1 := h _ hx
  rcases Nat.eq_zero_or_pos k with e | e
  · subst e
    rw [Nat.add_zero] at hk
    rw [hx] at hk
    injection hk with hk
    rw [hk] at h1
    exact h1
  · have := hS.lt hx hk (by omega)
    have := hS.le hx
    omega
theorem take_far {S : List (Int × Int)} {i : Nat} {n : Int} (hf : Fnd S (n - 1) i) : ∀ p ∈ S.take i, p.2 + 1 < n := fun p hp => by
  obtain ⟨k, hk⟩ := List.mem_iff_getElem?.1 hp
  rw [List.getElem?_take] at hk
  split at hk
  · have := hf.lo k p hk (by assumption)
    omega
  · cases hk
theorem take_far2 {S : List (Int × Int)} {i : Nat} {q : Int × Int} (hS : SpOk S) (h : S[i]? = some q) : ∀ p ∈ S.take i, p.2 + 1 < q.1 := fun p hp => by
  obtain ⟨k, hk⟩ := List.mem_iff_getElem?.1 hp
  rw [List.getElem?_take] at hk
  split at hk
  · exact hS.lt hk h (by assumption)
  · cases hk
/-- The number stands alone. -/
theorem add_alone {S : List (Int × Int)} {n : Int} {i : Nat} (hS : SpOk S) (hf : Fnd S (n - 1) i) (h : ∀ q, S[i]? = some q → n + 1 < q.1) :
    SpOk (S.take i ++ [(n, n)] ++ S.drop i) ∧ ∀ z, z ∈ els (S.take i ++ [(n, n)] ++ S.drop i) ↔ z ∈ els S ∨ z = n :=
  add_put hS (Nat.le_refl _) (Int.le_refl _) (Int.le_refl _) (take_far hf) (drop_far hS h) fun z => by
    rw [List.drop_eq_nil_of_le (by rw [List.length_take]; omega)]
    constructor
    · intro h; exact .inl (by omega)
    · rintro (h | h)
      · omega
      · exact absurd h els_nil_mem
/-- It goes ahead of the run that follows. -/
theorem add_right {S : List (Int × Int)} {n : Int} {i : Nat} {q : Int × Int} (hS : SpOk S) (hf : Fnd S (n - 1) i) (h : S[i]? = some q) (hq : q.1 = n + 1) :
    SpOk (S.take i ++ [(n, q.2)] ++ S.drop (i + 1)) ∧ ∀ z, z ∈ els (S.take i ++ [(n, q.2)] ++ S.drop (i + 1)) ↔ z ∈ els S ∨ z = n := by
  have hl := (List.getElem?_eq_some_iff.1 h).1
  have hqq := hS.le h
  refine add_put hS (by omega) (Int.le_refl _) (by omega) (take_far hf) (drop_far hS fun r hr => hS.lt h hr (by omega)) fun z => ?_
  rw [drop_take_one h, els_one_mem]
  omega
/-- It goes behind the run that it follows. -/
theorem add_left {S : List (Int × Int)} {n : Int} {i : Nat} {p : Int × Int} (hS : SpOk S) (h : S[i]? = some p) (hp : p.2 = n - 1) (hn : ∀ q, S[i + 1]? = some q → n + 1 < q.1) :
    SpOk (S.take i ++ [(p.1, n)] ++ S.drop (i + 1)) ∧ ∀ z, z ∈ els (S.take i ++ [(p.1, n)] ++ S.drop (i + 1)) ↔ z ∈ els S ∨ z = n := by
  have hl := (List.getElem?_eq_some_iff.1 h).1
  have hpp := hS.le h
  refine add_put hS (by omega) (by omega) (Int.le_refl _) (take_far2 hS h) (drop_far hS hn) fun z => ?_
  rw [drop_take_one h, els_one_mem]
  omega
/-- It joins two. -/
theorem add_both {S : List (Int × Int)} {n : Int} {i : Nat} {p q : Int × Int} (hS : SpOk S) (h : S[i]? = some p) (hp : p.2 = n - 1) (k : S[i + 1]? = some q) (hq : q.1 = n + 1) :
    SpOk (S.take i ++ [(p.1, q.2)] ++ S.drop (i + 2)) ∧ ∀ z, z ∈ els (S.take i ++ [(p.1, q.2)] ++ S.drop (i + 2)) ↔ z ∈ els S ∨ z = n := by
  have hl := (List.getElem?_eq_some_iff.1 k).1
  have hpp := hS.le h
  have hqq := hS.le k
  refine add_put hS (by omega) (by omega) (by omega) (take_far2 hS h) (drop_far hS fun r hr => hS.lt k hr (by omega)) fun z => ?_
  rw [drop_take_two h k, els_cons_mem, els_one_mem]
  omega
theorem upd_store2 {W w3 : World} {F : Nat → Prop} {m : Nat} {E E' : List Int} {v v' : Value} {L : List (Int × Int)} (h : SetAt W F m E) (hv : ∀ g, v.ownBlock = some g → F g ∧ g ≠ m) (g : W.grownBy w3 v.ownBlock)
    (ho : OwS 0 w3 v' L) (hb : ∀ g, v'.ownBlock = some g → v.ownBlock = some g ∨ W.heap.size ≤ g) (hL : SpOk L) (hE : els L = E') (hok : SetOk E') (n : Nat) :
    Upd W ((w3.setCell ⟨m, 0, none⟩ v').drewN n) F m E' := by
  have hm := h.lt m h.own
  obtain ⟨v0, S, _, _, h3, _, _⟩ := h.body
  have h3' := (g.block m hm (fun e => (hv m e.symm).2 rfl)).trans h3
  have hlt := ho.lt
  have hsz := g.size
  have hne : ∀ g, v'.ownBlock = some g → g ≠ m := fun g hg e => (hb g hg).elim (fun h => (hv g h).2 e) (fun h => by omega)
  refine ⟨fun k => k = m ∨ v'.ownBlock = some k, ⟨.inl rfl, fun k hk => ?_, hok, v', L, hL, hE, ?_, ho.at_ fun g' hg' => ?_, fun g' hg' => ⟨.inr hg', hne g' hg'⟩⟩, ⟨g.os, g.tape, g.output, ?_, fun k hk hn => ?_⟩, fun k hk => ?_⟩
  · show k < (w3.setCell ⟨m, 0, none⟩ v').heap.size
    rw [show (w3.setCell ⟨m, 0, none⟩ v').heap.size = w3.heap.size by simp [World.setCell]]
    rcases hk with rfl | hk
    · omega
    · exact (hlt k hk).2
  · show (w3.setCell ⟨m, 0, none⟩ v').heap[m]? = _
    simp [World.setCell, Array.getElem?_modify, h3']
  · exact Below.heap_setCell _ _ _ _ (hne g' hg')
  · show W.heap.size ≤ (w3.setCell ⟨m, 0, none⟩ v').heap.size
    rw [show (w3.setCell ⟨m, 0, none⟩ v').heap.size = w3.heap.size by simp [World.setCell]]
    exact hsz
  · exact (Below.heap_setCell _ _ _ _ (show k ≠ m from fun e => hn (e ▸ h.own))).trans (g.block k hk (fun e => hn (hv k e.symm).1))
  · rcases hk with rfl | hk
    · exact .inl h.own
    · exact (hb k hk).imp (fun e => (hv k e).1) id

end Go.Proofs.Ytpgefmhjhiemkaa
