/- Plain: where a note ends, found by going on place by place (the document's answer does so). -/
import Derived.Test.YthbhlmkgbinegaaDoorE2
namespace Go.Proofs.YthbhlmkgbinegaaDoor
theorem index_at {p : List UInt8} : ∀ (l : List UInt8) (j : Nat), (∀ i, i < j → Lib.hasPrefix (l.drop i) p = false) → Lib.hasPrefix (l.drop j) p = true → j ≤ l.length → Lib.index l p = j := by
  intro l
  induction l with
  | nil =>
    intro j _ h hj
    simp only [List.length_nil, Nat.le_zero] at hj
    subst hj
    unfold Lib.hasPrefix at h
    rw [List.drop_nil, List.isPrefixOf_iff_prefix, List.prefix_nil] at h
    subst h; rfl
  | cons b l ih =>
    intro j hn h hj
    cases j with
    | zero =>
      unfold Lib.hasPrefix at h
      rw [List.drop_zero] at h
      unfold Lib.index; rw [if_pos h]; rfl
    | succ j =>
      have h0 := hn 0 (by omega)
      unfold Lib.hasPrefix at h0
      rw [List.drop_zero] at h0
      have e := ih j (fun i hi => by have := hn (i + 1) (by omega); rwa [List.drop_succ_cons] at this) (by rwa [List.drop_succ_cons] at h) (by simpa using hj)
      unfold Lib.index
      rw [if_neg (by rw [h0]; exact Bool.false_ne_true), e, if_neg (by simp)]
      simp
theorem index_no {p : List UInt8} (hp : p ≠ []) : ∀ (l : List UInt8), (∀ i, i < l.length → Lib.hasPrefix (l.drop i) p = false) → Lib.index l p = -1 := by
  intro l
  induction l with
  | nil =>
    intro _
    unfold Lib.index
    rw [if_neg (by rw [List.isEmpty_iff]; exact hp)]
  | cons b l ih =>
    intro hn
    have h0 := hn 0 (by simp)
    unfold Lib.hasPrefix at h0
    rw [List.drop_zero] at h0
    have e := ih (fun i hi => by have := hn (i + 1) (by simpa using hi); rwa [List.drop_succ_cons] at this)
    unfold Lib.index
    rw [if_neg (by rw [h0]; exact Bool.false_ne_true), e]
    rfl
theorem hp_one {l : List UInt8} {b : UInt8} : Lib.hasPrefix l [b] = true ↔ ∃ r, l = b :: r := by
  unfold Lib.hasPrefix
  rw [List.isPrefixOf_iff_prefix]
  exact ⟨fun ⟨r, h⟩ => ⟨r, h.symm⟩, fun ⟨r, h⟩ => ⟨r, h.symm⟩⟩
theorem note_two {l : List UInt8} {c : UInt8} (h : Lib.hasPrefix l [47, c] = true) : ∃ r, l = 47 :: c :: r := by
  unfold Lib.hasPrefix at h
  rw [List.isPrefixOf_iff_prefix] at h
  obtain ⟨r, h⟩ := h
  exact ⟨r, h.symm⟩
/-- A note to the line's end, with no new line before place j: it ends behind the new line at j, .. -/
theorem line_at {l : List UInt8} (h : Lib.hasPrefix l [47, 47] = true) (j : Nat) (h2 : 2 ≤ j) (hn : ∀ i, 2 ≤ i → i < j → Lib.hasPrefix (l.drop i) [10] = false) (hj : Lib.hasPrefix (l.drop j) [10] = true) : commentR l = j + 1 := by
  obtain ⟨r, rfl⟩ := note_two h
  have hlt : j ≤ r.length + 2 := by have := hp_len hj; simp at this; omega
  have e : Lib.index ((47 :: 47 :: r).drop 2) [10] = ((j - 2 : Nat) : Int) := by
    refine index_at _ _ (fun i hi => ?_) ?_ (by simp; omega)
    · rw [List.drop_drop]; exact hn _ (by omega) (by omega)
    · rw [List.drop_drop, show 2 + (j - 2) = j by omega]; exact hj
  unfold commentR
  rw [if_neg (by simp), e, if_neg (by omega)]
  omega
/-- .. and with none at all it ends with the text. -/
theorem line_no {l : List UInt8} (h : Lib.hasPrefix l [47, 47] = true) (hn : ∀ i, 2 ≤ i → i < l.length → Lib.hasPrefix (l.drop i) [10] = false) : commentR l = l.length := by
  obtain ⟨r, rfl⟩ := note_two h
  have e : Lib.index ((47 :: 47 :: r).drop 2) [10] = -1 := by
    refine index_no (by simp) _ (fun i hi => ?_)
    rw [List.drop_drop]; exact hn _ (by omega) (by simp at hi ⊢; omega)
  unfold commentR
  rw [if_neg (by simp), e, if_pos (by omega)]
/-- A note with an end: the first of its ends at place j behind the head. -/
theorem block_at {l : List UInt8} (h : Lib.hasPrefix l [47, 42] = true) (j : Nat) (h2 : 2 ≤ j) (hn : ∀ i, 2 ≤ i → i < j → Lib.hasPrefix (l.drop i) [42, 47] = false) (hj : Lib.hasPrefix (l.drop j) [42, 47] = true) : commentR l = j + 2 := by
  obtain ⟨r, rfl⟩ := note_two h
  have hlt : j ≤ r.length + 2 := by have := hp_len hj; simp at this; omega
  have e : Lib.index ((47 :: 42 :: r).drop 2) [42, 47] = ((j - 2 : Nat) : Int) := by
    refine index_at _ _ (fun i hi => ?_) ?_ (by simp; omega)
    · rw [List.drop_drop]; exact hn _ (by omega) (by omega)
    · rw [List.drop_drop, show 2 + (j - 2) = j by omega]; exact hj
  unfold commentR
  rw [if_pos (by simp), e, if_neg (by omega)]
  omega
theorem block_no {l : List UInt8} (h : Lib.hasPrefix l [47, 42] = true) (hn : ∀ i, 2 ≤ i → i < l.length → Lib.hasPrefix (l.drop i) [42, 47] = false) : commentR l = 0 := by
  obtain ⟨r, rfl⟩ := note_two h
  have e : Lib.index ((47 :: 42 :: r).drop 2) [42, 47] = -1 := by
    refine index_no (by simp) _ (fun i hi => ?_)
    rw [List.drop_drop]; exact hn _ (by omega) (by simp at hi ⊢; omega)
  unfold commentR
  rw [if_pos (by simp), e, if_pos (by omega)]
end Go.Proofs.YthbhlmkgbinegaaDoor
