/- Tokens as a slice, wherever it lies; facts of lex. -/
import Derived.Test.YtkbplcfehllbjaaGreatDoorMkTop
namespace Go.Proofs.YtkbplcfehllbjaaGreatDoor
open Go.RowKit
theorem lex_bad_ne (f : Nat) : ∀ (R : List UInt8) (k p : Nat) (e : Int), R.length ≤ f → lexG R k = .bad p e → e ≠ 0 := by
  induction f with
  | zero =>
    intro R k p e hl h
    have : R = [] := List.eq_nil_of_length_eq_zero (by omega)
    subst this; rw [lexG_nil] at h; cases h
  | succ f ih =>
    intro R k p e hl h
    by_cases hR : R = []
    · subst hR; rw [lexG_nil] at h; cases h
    · rw [lexG_eq R k hR] at h
      cases hs : stepR R with
      | skip n =>
        rw [hs] at h
        obtain ⟨h1, h2⟩ := step_skip_le hR hs
        exact ih (R.drop n) (k + n) p e (by simp; omega) h
      | tok t =>
        rw [hs] at h
        obtain ⟨_, _, he, ht⟩ := step_tok_is hs
        have htl := tok_len R (headD_len hR) he
        rw [← ht] at htl
        cases hr : lexG (R.drop t.len) (k + t.len) with
        | ok tl => simp only [hr, Res.cons] at h; cases h
        | bad q e' =>
          simp only [hr, Res.cons] at h
          cases h
          exact ih (R.drop t.len) (k + t.len) p e (by simp; omega) hr
      | bad e' =>
        rw [hs] at h; cases h
        unfold stepR at hs
        split at hs
        · cases hs
        · split at hs
          · split at hs
            · cases hs; omega
            · cases hs
          · split at hs
            · cases hs
            · rename_i he; cases hs; exact he
theorem tokens_bad_facts {l : List UInt8} {p : Nat} {e : Int} (h : tokensR l = .bad p e) : p ≤ l.length ∧ e ≠ 0 := by
  unfold tokensR at h
  split at h
  · cases h; exact ⟨by omega, by omega⟩
  · have := lex_bad _ l 0 p e (Nat.le_refl _) h
    exact ⟨by omega, lex_bad_ne _ l 0 p e (Nat.le_refl _) h⟩
theorem tokens_ok_facts {l : List UInt8} {ts : List T4} (h : tokensR l = .ok ts) : l.length ≤ 20000 ∧ lexG l 0 = .ok ts := by
  unfold tokensR at h
  split at h
  · cases h
  · exact ⟨by omega, h⟩
def Row (w : World) (v : Value) (l : List T4) : Prop :=
  ∃ a cap, v = .slice a l.length cap ∧ (l ≠ [] → ∃ g, a = some ⟨g, 0, none⟩ ∧ g < w.heap.size ∧ ∀ j, j < l.length * 4 → w.cell? ⟨g, j, none⟩ = (cellsOf l)[j]?)
theorem Row.below {w w' : World} {v : Value} {l : List T4} (h : Row w v l) (b : Below w.heap.size w w') : Row w' v l := by
  obtain ⟨a, cap, hv, hc⟩ := h
  refine ⟨a, cap, hv, fun hl => ?_⟩
  obtain ⟨g, ha, hg, hcell⟩ := hc hl
  exact ⟨g, ha, Nat.lt_of_lt_of_le hg b.size, fun j hj => by rw [b.cell (p := ⟨g, j, none⟩) hg]; exact hcell j hj⟩
theorem row_of {w : World} {base : Nat} {v : Value} {l : List T4} (h : w.ownsRow base 49 4 v l.length (cellsOf l)) : Row w v l := by
  obtain ⟨h1, h2⟩ := h
  rcases h2 with ⟨hv, h2⟩ | ⟨g, cap, cur, hv, hg, hh, h3, h4, h5, h6⟩
  · have := List.eq_nil_of_length_eq_zero h2
    subst this
    exact ⟨none, 0, hv, fun hl => absurd rfl hl⟩
  · refine ⟨_, cap, hv, fun _ => ⟨g, rfl, ?_, fun j hj => ?_⟩⟩
    · rcases Nat.lt_or_ge g w.heap.size with h | h
      · exact h
      · rw [Array.getElem?_eq_none h] at hh; cases hh
    · rw [cell_of_row w g j _ _ _ hh, ← h6, List.getElem?_take_of_lt (by omega)]
      simp
theorem cellsOf_get (l : List T4) (k : Nat) (hk : k < l.length) : (cellsOf l)[k * 4]? = some (.int .i64 l[k].kind) ∧ (cellsOf l)[k * 4 + 1]? = some (.int .i64 l[k].pos) ∧ (cellsOf l)[k * 4 + 2]? = some (.string ⟨l[k].text.toArray⟩) ∧ (cellsOf l)[k * 4 + 3]? = some (.int .i64 l[k].val) := by
  induction l generalizing k with
  | nil => simp at hk
  | cons t l ih =>
    cases k with
    | zero => simp [cellsOf, cells4]
    | succ k =>
      have := ih k (by simpa using hk)
      have e : cellsOf (t :: l) = cells4 t ++ cellsOf l := by simp [cellsOf]
      have hl : (cells4 t).length = 4 := rfl
      rw [e]
      rw [List.getElem?_append_right (by rw [hl]; omega), List.getElem?_append_right (by rw [hl]; omega), List.getElem?_append_right (by rw [hl]; omega), List.getElem?_append_right (by rw [hl]; omega), hl]
      rw [show (k + 1) * 4 - 4 = k * 4 by omega, show (k + 1) * 4 + 1 - 4 = k * 4 + 1 by omega, show (k + 1) * 4 + 2 - 4 = k * 4 + 2 by omega, show (k + 1) * 4 + 3 - 4 = k * 4 + 3 by omega]
      exact this
theorem rises_count (l : List UInt8) (ts : List T4) : ∀ last, last ≤ l.length → Rises l last ts → last + ts.length ≤ l.length := by
  induction ts with
  | nil => intro last h _; simpa using h
  | cons t ts ih =>
    intro last h hr
    obtain ⟨r1, r2, r3, _, _, r6⟩ := hr
    have := ih _ r2 r6
    have := List.length_pos_iff.2 r3
    simp; omega
end Go.Proofs.YtkbplcfehllbjaaGreatDoor
