/- Plain: between two tokens are blanks and notes alone; tokens stand where the text has them. -/
import Derived.Test.YthbhlmkgbinegaaDoorL1
namespace Go.Proofs.YthbhlmkgbinegaaDoor
theorem index_take (p : List UInt8) (hp : p ≠ []) (l : List UInt8) : ∀ m : Nat, 0 ≤ Lib.index l p → Lib.index l p + p.length ≤ (m : Int) → Lib.index (l.take m) p = Lib.index l p := by
  have hpl := List.length_pos_iff.2 hp
  induction l with
  | nil => intro m h; simp
  | cons b l ih =>
    intro m h0 h1
    cases m with
    | zero => omega
    | succ m =>
      rw [List.take_succ_cons]
      by_cases hb : p.isPrefixOf (b :: l) = true
      · have e : Lib.index (b :: l) p = 0 := by unfold Lib.index; rw [if_pos hb]
        rw [e] at h1 ⊢
        have : p.isPrefixOf (b :: l.take m) = true := by
          rw [List.isPrefixOf_iff_prefix] at hb ⊢
          rw [← List.take_succ_cons]
          exact List.prefix_take_iff.2 ⟨hb, by omega⟩
        unfold Lib.index; rw [if_pos this]
      · have e : Lib.index (b :: l) p = if Lib.index l p == -1 then -1 else Lib.index l p + 1 := by conv => lhs; unfold Lib.index; rw [if_neg hb]
        have hn : ¬ (Lib.index l p == -1) = true := by intro hh; rw [e, if_pos hh] at h0; omega
        rw [if_neg hn] at e
        have b1 := index_le l p
        have hne : Lib.index l p ≠ -1 := by simpa using hn
        have ih' := ih m (by omega) (by omega)
        have hb2 : ¬ p.isPrefixOf (b :: l.take m) = true := by
          intro hh
          apply hb
          rw [List.isPrefixOf_iff_prefix] at hh ⊢
          rw [← List.take_succ_cons] at hh
          exact hh.trans (List.take_prefix _ _)
        unfold Lib.index
        rw [if_neg hb2, ih', if_neg hn, if_neg hb]
theorem pre_take_iff {R p : List UInt8} {M : Nat} (hM : p.length ≤ M) : Lib.hasPrefix (R.take M) p = Lib.hasPrefix R p := by
  unfold Lib.hasPrefix
  rw [Bool.eq_iff_iff, List.isPrefixOf_iff_prefix, List.isPrefixOf_iff_prefix]
  exact ⟨fun h => h.trans (List.take_prefix _ _), fun h => List.prefix_take_iff.2 ⟨h, hM⟩⟩
theorem hd_take {R : List UInt8} {M : Nat} (hM : 1 ≤ M) : hd (R.take M) = hd R := by
  cases R with
  | nil => simp
  | cons b l => cases M with
    | zero => omega
    | succ M => simp [hd]
theorem getD_take {R : List UInt8} {M i : Nat} (hM : i < M) : (R.take M).getD i 0 = R.getD i 0 := by
  rw [List.getD_eq_getElem?_getD, List.getD_eq_getElem?_getD, List.getElem?_take_of_lt hM]
theorem step_skip_le {R : List UInt8} {n : Nat} (h0 : R ≠ []) (h : stepR R = .skip n) : 1 ≤ n ∧ n ≤ R.length := by
  have hl := headD_len h0
  unfold stepR at h
  split at h
  · cases h; omega
  · split at h
    · rename_i hn
      have hc := comment_len R (note_len hn)
      split at h
      · cases h
      · cases h; omega
    · split at h <;> cases h
theorem step_skip_take {R : List UInt8} {n M : Nat} (h0 : R ≠ []) (h : stepR R = .skip n) (hM : n ≤ M) : stepR (R.take M) = .skip n := by
  obtain ⟨hn1, hn2⟩ := step_skip_le h0 h
  have hh := hd_take (R := R) (M := M) (by omega)
  unfold stepR at h ⊢
  rw [hh]
  split at h
  · rename_i hs; rw [if_pos hs]; exact h
  · rename_i hs
    rw [if_neg hs]
    split at h
    · rename_i hnote
      split at h
      · cases h
      · rename_i hc
        have hlen := note_len hnote
        have hcl := comment_len R hlen
        have e : (commentR R).toNat = n := by cases h; rfl
        have h2 : 2 ≤ n := by
          unfold commentR at e hc
          split at e
          · rename_i h42; rw [if_pos h42] at hc; split at e
            · rename_i hi; rw [if_pos hi] at hc; omega
            · omega
          · split at e <;> omega
        have hnt : isNote (R.take M) = true := by unfold isNote at hnote ⊢; rw [pre_take_iff (by simp; omega), pre_take_iff (by simp; omega)]; exact hnote
        have hcm : commentR (R.take M) = commentR R := by
          by_cases hML : R.length ≤ M
          · rw [List.take_of_length_le hML]
          · unfold commentR at e hcl ⊢
            rw [getD_take (by omega), List.drop_take]
            split
            · rename_i h42
              rw [if_pos h42] at e
              split at e
              · simp at e; omega
              · rename_i hi
                rw [index_take [42, 47] (by simp) _ _ (by omega) (by simp; omega), if_neg hi]
            · rename_i h42
              rw [if_neg h42] at e
              split at e
              · omega
              · rename_i hi
                rw [index_take [10] (by simp) _ _ (by omega) (by simp; omega), if_neg hi, if_neg hi]
        rw [if_pos hnt, hcm, if_neg hc]
        cases h; rfl
    · split at h <;> cases h
/-- the first m bytes are skipped. -/
inductive Skips : List UInt8 → Nat → Prop
  | none (R : List UInt8) : Skips R 0
  | more {R : List UInt8} {n m : Nat} (h0 : R ≠ []) (h : stepR R = .skip n) (k : Skips (R.drop n) m) : Skips R (n + m)
theorem Skips.le {R : List UInt8} {m : Nat} (h : Skips R m) : m ≤ R.length := by
  induction h with
  | none => omega
  | more h0 h k ih => have := step_skip_le h0 h; rw [List.length_drop] at ih; omega
theorem Skips.blank {R : List UInt8} {m : Nat} (h : Skips R m) (a : Nat) : lexG (R.take m) a = .ok [] := by
  induction h generalizing a with
  | none => rfl
  | @more R n m h0 h k ih =>
    obtain ⟨h1, h2⟩ := step_skip_le h0 h
    have hne : R.take (n + m) ≠ [] := by intro e; have := congrArg List.length e; rw [List.length_take, List.length_nil] at this; omega
    rw [lexG_eq _ _ hne, step_skip_take h0 h (by omega)]
    show lexG ((R.take (n + m)).drop n) _ = _
    rw [List.drop_take, show n + m - n = m by omega]
    exact ih _
theorem step_tok_is {R : List UInt8} {t : Tk} (h : stepR R = .tok t) : isSp (hd R) = false ∧ isNote R = false ∧ (tokR R).err = 0 ∧ t = tokR R := by
  unfold stepR at h
  split at h
  · cases h
  · rename_i hs
    split at h
    · split at h <;> cases h
    · rename_i hn
      split at h
      · rename_i he; cases h; exact ⟨by simpa using hs, by simpa using hn, he, rfl⟩
      · cases h
/-- how a text begins: blanks, then a token (or nothing any more). -/
theorem lex_ok (f : Nat) : ∀ (R : List UInt8) (k : Nat) (ts : List T4), R.length ≤ f → lexG R k = .ok ts →
    ∃ m, Skips R m ∧ ((ts = [] ∧ m = R.length) ∨ ∃ t tl, stepR (R.drop m) = .tok t ∧ R.drop m ≠ [] ∧ ts = ⟨t.kind, k + m, (R.drop m).take t.len, t.val⟩ :: tl ∧ lexG (R.drop (m + t.len)) (k + (m + t.len)) = .ok tl) := by
  induction f with
  | zero =>
    intro R k ts hl h
    have : R = [] := List.eq_nil_of_length_eq_zero (by omega)
    subst this
    rw [lexG_nil] at h; cases h
    exact ⟨0, .none _, .inl ⟨rfl, rfl⟩⟩
  | succ f ih =>
    intro R k ts hl h
    by_cases hR : R = []
    · subst hR; rw [lexG_nil] at h; cases h; exact ⟨0, .none _, .inl ⟨rfl, rfl⟩⟩
    · rw [lexG_eq R k hR] at h
      cases hs : stepR R with
      | skip n =>
        rw [hs] at h
        obtain ⟨h1, h2⟩ := step_skip_le hR hs
        obtain ⟨m, hm, hc⟩ := ih (R.drop n) (k + n) ts (by simp; omega) h
        refine ⟨n + m, .more hR hs hm, ?_⟩
        rcases hc with ⟨e1, e2⟩ | ⟨t, tl, e1, e2, e3, e4⟩
        · exact .inl ⟨e1, by rw [e2]; simp; omega⟩
        · rw [List.drop_drop] at e1 e2 e3 e4
          exact .inr ⟨t, tl, e1, e2, by rw [e3, Nat.add_assoc], by rw [show n + m + t.len = n + (m + t.len) by omega, show k + (n + (m + t.len)) = k + n + (m + t.len) by omega]; exact e4⟩
      | tok t =>
        rw [hs] at h
        cases hr : lexG (R.drop t.len) (k + t.len) with
        | bad p e => simp only [hr, Res.cons] at h; cases h
        | ok tl =>
          simp only [hr, Res.cons] at h
          cases h
          exact ⟨0, .none _, .inr ⟨t, tl, by simpa using hs, by simpa using hR, by simp, by simpa using hr⟩⟩
      | bad e => rw [hs] at h; cases h
theorem lex_bad (f : Nat) : ∀ (R : List UInt8) (k p : Nat) (e : Int), R.length ≤ f → lexG R k = .bad p e → p ≤ k + R.length := by
  induction f with
  | zero =>
    intro R k p e hl h
    have : R = [] := List.eq_nil_of_length_eq_zero (by omega)
    subst this; rw [lexG_nil] at h; cases h
  | succ f ih =>
    intro R k p e hl h
    by_cases hR : R = []
    · subst hR; rw [lexG_nil] at h; cases h
    · rw [lexG_eq R k hR] at h
      cases hs : stepR R with
      | skip n =>
        rw [hs] at h
        obtain ⟨h1, h2⟩ := step_skip_le hR hs
        have := ih (R.drop n) (k + n) p e (by simp; omega) h
        rw [List.length_drop] at this; omega
      | tok t =>
        rw [hs] at h
        obtain ⟨_, _, he, ht⟩ := step_tok_is hs
        have htl := tok_len R (headD_len hR) he
        rw [← ht] at htl
        cases hr : lexG (R.drop t.len) (k + t.len) with
        | ok tl => simp only [hr, Res.cons] at h; cases h
        | bad q e' =>
          simp only [hr, Res.cons] at h
          cases h
          have := ih (R.drop t.len) (k + t.len) p e (by simp; omega) hr
          rw [List.length_drop] at this; omega
      | bad e' => rw [hs] at h; cases h; omega
/-- what LexRises asks of the tokens. -/
def Rises (l : List UInt8) : Nat → List T4 → Prop
  | _, [] => True
  | last, t :: ts => last ≤ t.pos ∧ t.pos + t.text.length ≤ l.length ∧ t.text ≠ [] ∧ (l.take (t.pos + t.text.length)).drop t.pos = t.text ∧ lexG ((l.take t.pos).drop last) 0 = .ok [] ∧ Rises l (t.pos + t.text.length) ts
theorem rises_of (l : List UInt8) (ts : List T4) : ∀ last, last ≤ l.length → lexG (l.drop last) last = .ok ts → Rises l last ts := by
  induction ts with
  | nil => intro _ _ _; trivial
  | cons t0 ts ih =>
    intro last hl h
    obtain ⟨m, hm, hc⟩ := lex_ok _ (l.drop last) last _ (Nat.le_refl _) h
    rcases hc with ⟨e, _⟩ | ⟨t, tl, e1, e2, e3, e4⟩
    · cases e
    · cases e3
      obtain ⟨_, _, he, ht⟩ := step_tok_is e1
      have htl := tok_len _ (headD_len e2) he
      rw [← ht, List.length_drop, List.length_drop] at htl
      rw [List.drop_drop] at e1 e2 ⊢
      have hlen : ((l.drop (last + m)).take t.len).length = t.len := by simp; omega
      refine ⟨by simp only; omega, ?_, ?_, ?_, ?_, ?_⟩
      · simp only [hlen]; omega
      · intro e; have := congrArg List.length e; simp only [hlen] at this; simp at this; omega
      · simp only [hlen]
        rw [List.drop_take, show last + m + t.len - (last + m) = t.len by omega]
      · simp only
        have := hm.blank 0
        rw [List.drop_take, show last + m - last = m by omega]; exact this
      · simp only [hlen]
        rw [List.drop_drop] at e4
        have := ih (last + m + t.len) (by omega) (by rw [Nat.add_assoc]; exact e4)
        exact this
end Go.Proofs.YthbhlmkgbinegaaDoor
