/- One edge more; rings: in plain words. -/
import Derived.Test.YtneehdjaaofjaaaW6
namespace Go.Proofs.Ytneehdjaaofjaaa
open Go.RowKit
theorem prs_more {N : Nat} {E : List Edg} {e : Edg} {p : Nat × Nat} (h : p ∈ prs N E) : p ∈ prs N (E ++ [e]) := by
  obtain ⟨a, b⟩ := p
  obtain ⟨h1, h2, x, hx, h3, h4⟩ := prs_mem.1 h
  exact prs_mem.2 ⟨h1, h2, x, List.mem_append_left _ hx, h3, h4⟩
theorem prs_idle {N : Nat} {E : List Edg} {e : Edg} (h : edgeIn N e = false) : prs N (E ++ [e]) = prs N E := by
  unfold prs
  rw [List.filter_append]
  simp [h]
theorem gr_more {N : Nat} {ps qs : List (Nat × Nat)} {G H : List Int} (hs : ∀ p ∈ ps, p ∈ qs) (hg : IsGr N ps G) (hh : IsGr N qs H) {v : Nat} (hv : v < N) :
    ∃ x y : Nat, G[v]? = some (x : Int) ∧ H[v]? = some (y : Int) ∧ x < N ∧ y ≤ x ∧ H[x]? = some (y : Int) := by
  obtain ⟨x, hx, htx⟩ := hg.2 v hv
  obtain ⟨y, hy, hty⟩ := hh.2 v hv
  have hxv := htx.le
  have hm : Mut qs v x := ⟨htx.1.1.mono hs, htx.1.2.mono hs⟩
  obtain ⟨z, hz, htz⟩ := hh.2 x (by omega)
  have e := (hty.of_mut hm).same htz
  subst e
  exact ⟨x, y, hx, hy, by omega, hty.2 x hm, hz⟩
theorem re_more {N : Nat} {ps qs : List (Nat × Nat)} {F X Y : List Int} (hs : ∀ p ∈ ps, p ∈ qs) (hx : IsRe N ps F X) (hy : IsRe N qs F Y) : X.length ≤ Y.length := by
  refine List.Nodup.length_le_of_subset (rise_nodup hx.1) fun x h => ?_
  obtain ⟨a, b, h1, h2, h3, h4⟩ := (hx.2 x).1 h
  exact (hy.2 x).2 ⟨a, b, h1, h2, h3.mono hs, h4⟩
/-- The ring of k points. -/
def ringE (k : Nat) : List Edg := (List.range k).map fun (i : Nat) => ⟨(i : Int), 0, (((i + 1) % k : Nat) : Int)⟩
theorem ring_len (k : Nat) : (ringE k).length = k := by simp [ringE]
theorem ring_at {k i : Nat} {e : Edg} (h : (ringE k)[i]? = some e) : i < k ∧ e = ⟨(i : Int), 0, (((i + 1) % k : Nat) : Int)⟩ := by
  have hl := (List.getElem?_eq_some_iff.1 h).1
  rw [ring_len] at hl
  refine ⟨hl, ?_⟩
  unfold ringE at h
  rw [List.getElem?_map, List.getElem?_range hl] at h
  injection h with h
  exact h.symm
theorem ring_get {k i : Nat} (h : i < k) : (ringE k)[i]? = some ⟨(i : Int), 0, (((i + 1) % k : Nat) : Int)⟩ := by
  unfold ringE
  rw [List.getElem?_map, List.getElem?_range h]
  rfl
theorem ring_mem {k i : Nat} (h : i < k) : (i, (i + 1) % k) ∈ prs k (ringE k) :=
  prs_mem.2 ⟨h, Nat.mod_lt _ (by omega), _, List.mem_of_getElem? (ring_get h), rfl, rfl⟩
theorem ring_up {k : Nat} : ∀ d i, i + d < k → Lds (prs k (ringE k)) i (i + d)
  | 0, i, _ => .refl
  | d + 1, i, h => by
    have h1 := ring_up (k := k) d i (by omega)
    have h2 := ring_mem (k := k) (i := i + d) (by omega)
    rw [Nat.mod_eq_of_lt (by omega)] at h2
    exact h1.trans (.one h2)
theorem ring_mut {k v : Nat} (h : v < k) : Mut (prs k (ringE k)) v 0 := by
  refine ⟨?_, by have := ring_up (k := k) v 0 (by omega); rwa [Nat.zero_add] at this⟩
  have h1 := ring_up (k := k) (k - 1 - v) v (by omega)
  rw [show v + (k - 1 - v) = k - 1 by omega] at h1
  have h2 := ring_mem (k := k) (i := k - 1) (by omega)
  rw [show k - 1 + 1 = k by omega, Nat.mod_self] at h2
  exact h1.trans (.one h2)
theorem ring_gr (k : Nat) : IsGr k (prs k (ringE k)) (List.replicate k 0) := by
  refine ⟨List.length_replicate .., fun v hv => ⟨0, ?_, ring_mut hv, fun u _ => Nat.zero_le _⟩⟩
  rw [List.getElem?_replicate, if_pos hv]
  rfl
def cutE (k c : Nat) : List Edg := (ringE k).take c ++ (ringE k).drop (c + 1)
theorem cut_mem {k c : Nat} {e : Edg} (h : e ∈ cutE k c) : ∃ i, i < k ∧ i ≠ c ∧ e = ⟨(i : Int), 0, (((i + 1) % k : Nat) : Int)⟩ := by
  rcases List.mem_append.1 h with h | h
  · obtain ⟨i, hi⟩ := List.getElem?_of_mem h
    have hl := (List.getElem?_eq_some_iff.1 hi).1
    rw [List.length_take] at hl
    rw [List.getElem?_take_of_lt (by omega)] at hi
    obtain ⟨h1, h2⟩ := ring_at hi
    exact ⟨i, h1, by omega, h2⟩
  · obtain ⟨i, hi⟩ := List.getElem?_of_mem h
    rw [List.getElem?_drop] at hi
    obtain ⟨h1, h2⟩ := ring_at hi
    exact ⟨_, h1, by omega, h2⟩
theorem cut_edge {k c a b : Nat} (hc : c < k) (h : (a, b) ∈ prs k (cutE k c)) : (if a ≤ c then a + k else a) < (if b ≤ c then b + k else b) := by
  obtain ⟨h1, h2, e, he, h3, h4⟩ := prs_mem.1 h
  obtain ⟨i, hi, hic, rfl⟩ := cut_mem he
  dsimp only at h3 h4
  have ha : a = i := by omega
  have hb : b = (i + 1) % k := by omega
  subst ha
  by_cases h5 : a + 1 = k
  · rw [h5, Nat.mod_self] at hb
    subst hb
    split <;> simp <;> omega
  · rw [Nat.mod_eq_of_lt (by omega)] at hb
    subst hb
    split <;> split <;> omega
theorem cut_lds {k c a b : Nat} (hc : c < k) (h : Lds (prs k (cutE k c)) a b) : a = b ∨ (if a ≤ c then a + k else a) < (if b ≤ c then b + k else b) :=
  h.shut (S := fun x => a = x ∨ (if a ≤ c then a + k else a) < (if x ≤ c then x + k else x)) (fun x y hxy hx => by
    have h1 := cut_edge hc hxy
    rcases hx with rfl | hx
    · exact .inr h1
    · exact .inr (Nat.lt_trans hx h1)) (.inl rfl)
theorem cut_gr {k c : Nat} (hc : c < k) : IsGr k (prs k (cutE k c)) ((List.range k).map fun (i : Nat) => (i : Int)) := by
  refine ⟨by simp, fun v hv => ⟨v, ?_, Mut.refl _ _, fun u hu => ?_⟩⟩
  · rw [List.getElem?_map, List.getElem?_range hv]
    rfl
  · rcases cut_lds hc hu.1 with rfl | h1
    · exact Nat.le_refl _
    · rcases cut_lds hc hu.2 with rfl | h2
      · exact Nat.le_refl _
      · omega

end Go.Proofs.Ytneehdjaaofjaaa
