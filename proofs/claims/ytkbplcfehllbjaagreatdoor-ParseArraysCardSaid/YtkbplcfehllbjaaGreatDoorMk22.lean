/- Merged: P3, P4, P5, G4, G7. -/
import Derived.Test.YtkbplcfehllbjaaGreatDoorMk21
/- Plain: between two tokens are blanks and notes alone; tokens stand where the text has them. -/
namespace Go.Proofs.YtkbplcfehllbjaaGreatDoor
theorem index_take (p : List UInt8) (hp : p ≠ []) (l : List UInt8) : ∀ m : Nat, 0 ≤ Lib.index l p → Lib.index l p + p.length ≤ (m : Int) → Lib.index (l.take m) p = Lib.index l p := by
  have hpl := List.length_pos_iff.2 hp
  induction l with
  | nil => intro m h; simp
  | cons b l ih =>
    intro m h0 h1
    cases m with
    | zero => omega
    | succ m =>
      rw [List.take_succ_cons]
      by_cases hb : p.isPrefixOf (b :: l) = true
      · have e : Lib.index (b :: l) p = 0 := by unfold Lib.index; rw [if_pos hb]
        rw [e] at h1 ⊢
        have : p.isPrefixOf (b :: l.take m) = true := by
          rw [List.isPrefixOf_iff_prefix] at hb ⊢
          rw [← List.take_succ_cons]
          exact List.prefix_take_iff.2 ⟨hb, by omega⟩
        unfold Lib.index; rw [if_pos this]
      · have e : Lib.index (b :: l) p = if Lib.index l p == -1 then -1 else Lib.index l p + 1 := by conv => lhs; unfold Lib.index; rw [if_neg hb]
        have hn : ¬ (Lib.index l p == -1) = true := by intro hh; rw [e, if_pos hh] at h0; omega
        rw [if_neg hn] at e
        have b1 := index_le l p
        have hne : Lib.index l p ≠ -1 := by simpa using hn
        have ih' := ih m (by omega) (by omega)
        have hb2 : ¬ p.isPrefixOf (b :: l.take m) = true := by
          intro hh
          apply hb
          rw [List.isPrefixOf_iff_prefix] at hh ⊢
          rw [← List.take_succ_cons] at hh
          exact hh.trans (List.take_prefix _ _)
        unfold Lib.index
        rw [if_neg hb2, ih', if_neg hn, if_neg hb]
theorem pre_take_iff {R p : List UInt8} {M : Nat} (hM : p.length ≤ M) : Lib.hasPrefix (R.take M) p = Lib.hasPrefix R p := by
  unfold Lib.hasPrefix
  rw [Bool.eq_iff_iff, List.isPrefixOf_iff_prefix, List.isPrefixOf_iff_prefix]
  exact ⟨fun h => h.trans (List.take_prefix _ _), fun h => List.prefix_take_iff.2 ⟨h, hM⟩⟩
theorem hd_take {R : List UInt8} {M : Nat} (hM : 1 ≤ M) : hd (R.take M) = hd R := by
  cases R with
  | nil => simp
  | cons b l => cases M with
    | zero => omega
    | succ M => simp [hd]
theorem getD_take {R : List UInt8} {M i : Nat} (hM : i < M) : (R.take M).getD i 0 = R.getD i 0 := by
  rw [List.getD_eq_getElem?_getD, List.getD_eq_getElem?_getD, List.getElem?_take_of_lt hM]
theorem step_skip_le {R : List UInt8} {n : Nat} (h0 : R ≠ []) (h : stepR R = .skip n) : 1 ≤ n ∧ n ≤ R.length := by
  have hl := headD_len h0
  unfold stepR at h
  split at h
  · cases h; omega
  · split at h
    · rename_i hn
      have hc := comment_len R (note_len hn)
      split at h
      · cases h
      · cases h; omega
    · split at h <;> cases h
theorem step_skip_take {R : List UInt8} {n M : Nat} (h0 : R ≠ []) (h : stepR R = .skip n) (hM : n ≤ M) : stepR (R.take M) = .skip n := by
  obtain ⟨hn1, hn2⟩ := step_skip_le h0 h
  have hh := hd_take (R := R) (M := M) (by omega)
  unfold stepR at h ⊢
  rw [hh]
  split at h
  · rename_i hs; rw [if_pos hs]; exact h
  · rename_i hs
    rw [if_neg hs]
    split at h
    · rename_i hnote
      split at h
      · cases h
      · rename_i hc
        have hlen := note_len hnote
        have hcl := comment_len R hlen
        have e : (commentR R).toNat = n := by cases h; rfl
        have h2 : 2 ≤ n := by
          unfold commentR at e hc
          split at e
          · rename_i h42; rw [if_pos h42] at hc; split at e
            · rename_i hi; rw [if_pos hi] at hc; omega
            · omega
          · split at e <;> omega
        have hnt : isNote (R.take M) = true := by unfold isNote at hnote ⊢; rw [pre_take_iff (by simp; omega), pre_take_iff (by simp; omega)]; exact hnote
        have hcm : commentR (R.take M) = commentR R := by
          by_cases hML : R.length ≤ M
          · rw [List.take_of_length_le hML]
          · unfold commentR at e hcl ⊢
            rw [getD_take (by omega), List.drop_take]
            split
            · rename_i h42
              rw [if_pos h42] at e
              split at e
              · simp at e; omega
              · rename_i hi
                rw [index_take [42, 47] (by simp) _ _ (by omega) (by simp; omega), if_neg hi]
            · rename_i h42
              rw [if_neg h42] at e
              split at e
              · omega
              · rename_i hi
                rw [index_take [10] (by simp) _ _ (by omega) (by simp; omega), if_neg hi, if_neg hi]
        rw [if_pos hnt, hcm, if_neg hc]
        cases h; rfl
    · split at h <;> cases h
/-- the first m bytes are skipped. -/
inductive Skips : List UInt8 → Nat → Prop
  | none (R : List UInt8) : Skips R 0
  | more {R : List UInt8} {n m : Nat} (h0 : R ≠ []) (h : stepR R = .skip n) (k : Skips (R.drop n) m) : Skips R (n + m)
theorem Skips.le {R : List UInt8} {m : Nat} (h : Skips R m) : m ≤ R.length := by
  induction h with
  | none => omega
  | more h0 h k ih => have := step_skip_le h0 h; rw [List.length_drop] at ih; omega
theorem Skips.blank {R : List UInt8} {m : Nat} (h : Skips R m) (a : Nat) : lexG (R.take m) a = .ok [] := by
  induction h generalizing a with
  | none => rfl
  | @more R n m h0 h k ih =>
    obtain ⟨h1, h2⟩ := step_skip_le h0 h
    have hne : R.take (n + m) ≠ [] := by intro e; have := congrArg List.length e; rw [List.length_take, List.length_nil] at this; omega
    rw [lexG_eq _ _ hne, step_skip_take h0 h (by omega)]
    show lexG ((R.take (n + m)).drop n) _ = _
    rw [List.drop_take, show n + m - n = m by omega]
    exact ih _
theorem step_tok_is {R : List UInt8} {t : Tk} (h : stepR R = .tok t) : isSp (hd R) = false ∧ isNote R = false ∧ (tokR R).err = 0 ∧ t = tokR R := by
  unfold stepR at h
  split at h
  · cases h
  · rename_i hs
    split at h
    · split at h <;> cases h
    · rename_i hn
      split at h
      · rename_i he; cases h; exact ⟨by simpa using hs, by simpa using hn, he, rfl⟩
      · cases h
/-- how a text begins: blanks, then a token (or nothing any more). -/
theorem lex_ok (f : Nat) : ∀ (R : List UInt8) (k : Nat) (ts : List T4), R.length ≤ f → lexG R k = .ok ts →
    ∃ m, Skips R m ∧ ((ts = [] ∧ m = R.length) ∨ ∃ t tl, stepR (R.drop m) = .tok t ∧ R.drop m ≠ [] ∧ ts = ⟨t.kind, k + m, (R.drop m).take t.len, t.val⟩ :: tl ∧ lexG (R.drop (m + t.len)) (k + (m + t.len)) = .ok tl) := by
  induction f with
  | zero =>
    intro R k ts hl h
    have : R = [] := List.eq_nil_of_length_eq_zero (by omega)
    subst this
    rw [lexG_nil] at h; cases h
    exact ⟨0, .none _, .inl ⟨rfl, rfl⟩⟩
  | succ f ih =>
    intro R k ts hl h
    by_cases hR : R = []
    · subst hR; rw [lexG_nil] at h; cases h; exact ⟨0, .none _, .inl ⟨rfl, rfl⟩⟩
    · rw [lexG_eq R k hR] at h
      cases hs : stepR R with
      | skip n =>
        rw [hs] at h
        obtain ⟨h1, h2⟩ := step_skip_le hR hs
        obtain ⟨m, hm, hc⟩ := ih (R.drop n) (k + n) ts (by simp; omega) h
        refine ⟨n + m, .more hR hs hm, ?_⟩
        rcases hc with ⟨e1, e2⟩ | ⟨t, tl, e1, e2, e3, e4⟩
        · exact .inl ⟨e1, by rw [e2]; simp; omega⟩
        · rw [List.drop_drop] at e1 e2 e3 e4
          exact .inr ⟨t, tl, e1, e2, by rw [e3, Nat.add_assoc], by rw [show n + m + t.len = n + (m + t.len) by omega, show k + (n + (m + t.len)) = k + n + (m + t.len) by omega]; exact e4⟩
      | tok t =>
        rw [hs] at h
        cases hr : lexG (R.drop t.len) (k + t.len) with
        | bad p e => simp only [hr, Res.cons] at h; cases h
        | ok tl =>
          simp only [hr, Res.cons] at h
          cases h
          exact ⟨0, .none _, .inr ⟨t, tl, by simpa using hs, by simpa using hR, by simp, by simpa using hr⟩⟩
      | bad e => rw [hs] at h; cases h
theorem lex_bad (f : Nat) : ∀ (R : List UInt8) (k p : Nat) (e : Int), R.length ≤ f → lexG R k = .bad p e → p ≤ k + R.length := by
  induction f with
  | zero =>
    intro R k p e hl h
    have : R = [] := List.eq_nil_of_length_eq_zero (by omega)
    subst this; rw [lexG_nil] at h; cases h
  | succ f ih =>
    intro R k p e hl h
    by_cases hR : R = []
    · subst hR; rw [lexG_nil] at h; cases h
    · rw [lexG_eq R k hR] at h
      cases hs : stepR R with
      | skip n =>
        rw [hs] at h
        obtain ⟨h1, h2⟩ := step_skip_le hR hs
        have := ih (R.drop n) (k + n) p e (by simp; omega) h
        rw [List.length_drop] at this; omega
      | tok t =>
        rw [hs] at h
        obtain ⟨_, _, he, ht⟩ := step_tok_is hs
        have htl := tok_len R (headD_len hR) he
        rw [← ht] at htl
        cases hr : lexG (R.drop t.len) (k + t.len) with
        | ok tl => simp only [hr, Res.cons] at h; cases h
        | bad q e' =>
          simp only [hr, Res.cons] at h
          cases h
          have := ih (R.drop t.len) (k + t.len) p e (by simp; omega) hr
          rw [List.length_drop] at this; omega
      | bad e' => rw [hs] at h; cases h; omega
/-- what LexRises asks of the tokens. -/
def Rises (l : List UInt8) : Nat → List T4 → Prop
  | _, [] => True
  | last, t :: ts => last ≤ t.pos ∧ t.pos + t.text.length ≤ l.length ∧ t.text ≠ [] ∧ (l.take (t.pos + t.text.length)).drop t.pos = t.text ∧ lexG ((l.take t.pos).drop last) 0 = .ok [] ∧ Rises l (t.pos + t.text.length) ts
theorem rises_of (l : List UInt8) (ts : List T4) : ∀ last, last ≤ l.length → lexG (l.drop last) last = .ok ts → Rises l last ts := by
  induction ts with
  | nil => intro _ _ _; trivial
  | cons t0 ts ih =>
    intro last hl h
    obtain ⟨m, hm, hc⟩ := lex_ok _ (l.drop last) last _ (Nat.le_refl _) h
    rcases hc with ⟨e, _⟩ | ⟨t, tl, e1, e2, e3, e4⟩
    · cases e
    · cases e3
      obtain ⟨_, _, he, ht⟩ := step_tok_is e1
      have htl := tok_len _ (headD_len e2) he
      rw [← ht, List.length_drop, List.length_drop] at htl
      rw [List.drop_drop] at e1 e2 ⊢
      have hlen : ((l.drop (last + m)).take t.len).length = t.len := by simp; omega
      refine ⟨by simp only; omega, ?_, ?_, ?_, ?_, ?_⟩
      · simp only [hlen]; omega
      · intro e; have := congrArg List.length e; simp only [hlen] at this; simp at this; omega
      · simp only [hlen]
        rw [List.drop_take, show last + m + t.len - (last + m) = t.len by omega]
      · simp only
        have := hm.blank 0
        rw [List.drop_take, show last + m - last = m by omega]; exact this
      · simp only [hlen]
        rw [List.drop_drop] at e4
        have := ih (last + m + t.len) (by omega) (by rw [Nat.add_assoc]; exact e4)
        exact this
end Go.Proofs.YtkbplcfehllbjaaGreatDoor
/- Plain: a token's text alone is that token; names are names, words are words. -/
namespace Go.Proofs.YtkbplcfehllbjaaGreatDoor
theorem pfx_take (p : Int → Bool) (l : List UInt8) : ∀ m : Nat, m ≤ pfx p l → pfx p (l.take m) = m := by
  induction l with
  | nil => intro m h; simp [pfx] at h; subst h; rfl
  | cons b l ih =>
    intro m h
    cases m with
    | zero => rfl
    | succ m =>
      simp only [pfx] at h
      split at h
      · rename_i hb
        rw [List.take_succ_cons]
        simp only [pfx, hb, if_true]
        rw [ih m (by omega)]
      · omega
theorem note_short {l : List UInt8} (h : l.length < 2) : isNote l = false := by
  rw [Bool.eq_false_iff]; intro e; have := note_len e; omega
theorem note_take {R : List UInt8} {M : Nat} (h : isNote R = false) : isNote (R.take M) = false := by
  by_cases hM : 2 ≤ M
  · unfold isNote at h ⊢; rw [pre_take_iff (by simpa using hM), pre_take_iff (by simpa using hM)]; exact h
  · exact note_short (by simp; omega)
theorem word_alone {R : List UInt8} (he : (wordR R).err = 0) : wordR (R.take (wordR R).len) = wordR R := by
  have hn : ¬ 24 < pfx isWb R := by intro h; unfold wordR at he; rw [if_pos h] at he; simp [Tk.bad] at he
  have hl : (wordR R).len = pfx isWb R := by unfold wordR; rw [if_neg hn]; split <;> rfl
  rw [hl]
  unfold wordR
  rw [pfx_take isWb R _ (Nat.le_refl _), List.take_take, Nat.min_self]
theorem headD_take {R : List UInt8} {M : Nat} (hM : 1 ≤ M) : (R.take M).headD 0 = R.headD 0 := by
  cases R with
  | nil => simp
  | cons b l => cases M with
    | zero => omega
    | succ M => simp
theorem hexD_take {R : List UInt8} (h : 0 < hexD R) : hexD (R.take (2 + hexD R)) = hexD R := by
  obtain ⟨h1, h2, h3⟩ := hexD_pos h
  have hp : Lib.hasPrefix R [48, 120] = true := by
    cases e : Lib.hasPrefix R [48, 120] with
    | true => rfl
    | false => unfold hexD at h; rw [e] at h; simp at h
  generalize hexD R = m at *
  unfold hexD
  rw [pre_take_iff (by simp), hp, if_pos rfl, List.drop_take, show 2 + m - 2 = m by omega, pfx_take isHx _ _ h2]
  omega
theorem num_alone {R : List UInt8} (h0 : 0 < R.length) (hd0 : isDig (hd R) = true) (he : (numberR R).err = 0) : numberR (R.take (numberR R).len) = numberR R := by
  have c1 : ¬ ((spanR R).stop < R.length ∧ isWb ((R.getD (spanR R).stop 0).toNat : Nat) = true) := by
    intro h; unfold numberR at he; rw [if_pos h] at he; simp [Tk.bad] at he
  have c2 : ¬ 9223372036854775808 ≤ valN (spanR R).base ((R.take (spanR R).stop).drop (spanR R).start) := by
    intro h; unfold numberR at he; rw [if_neg c1, if_pos h] at he; simp [Tk.bad] at he
  have e1 : numberR R = ⟨3, (spanR R).stop, valN (spanR R).base ((R.take (spanR R).stop).drop (spanR R).start), 0⟩ := by
    unfold numberR; rw [if_neg c1, if_neg c2]
  have hl := num_len R hd0 h0 he
  rw [e1] at hl ⊢
  simp only at hl ⊢
  have hsp : spanR (R.take (spanR R).stop) = spanR R := by
    have hh := headD_take (R := R) (M := (spanR R).stop) hl.1
    unfold spanR at hh hl ⊢
    split at hh
    · rename_i c; rw [if_pos c] at hl ⊢; rw [if_pos (by rw [hh]; exact c), pfx_take isDig R _ (Nat.le_refl _)]
    · rename_i c
      split at hh
      · rename_i hx; rw [if_neg c, if_pos hx] at hl ⊢
        rw [if_neg (by rw [hh]; exact c), hexD_take hx, if_pos hx]
      · rename_i hx
        rw [if_neg c, if_neg hx] at hl ⊢
        have h1 : hexD (R.take 1) = 0 := by
          unfold hexD
          rw [if_neg]
          intro e; have := hp_len e; simp at this; omega
        rw [if_neg (by rw [hh]; exact c), h1, if_neg (by omega)]
  unfold numberR
  rw [hsp, if_neg (by intro ⟨h, _⟩; simp at h; omega), List.take_take, Nat.min_self, if_neg c2]
theorem char_alone {R : List UInt8} (he : (charR R).err = 0) : charR (R.take (charR R).len) = charR R := by
  match R with
  | a :: b :: c :: r =>
    by_cases h : c = 39 ∧ isPl (b.toNat : Nat) = true
    · simp [charR, h]
    · simp only [charR, if_neg h] at he; simp [Tk.bad] at he
  | [] => simp [charR, Tk.bad] at he
  | [a] => simp [charR, Tk.bad] at he
  | [a, b] => simp [charR, Tk.bad] at he
theorem sign_alone {R : List UInt8} (he : (signR R).err = 0) : signR (R.take (signR R).len) = signR R := by
  cases ho : opL.find? (fun o => Lib.hasPrefix R o) with
  | none => simp [signR, ho, Tk.bad] at he
  | some o =>
    have e : signR R = ⟨4, o.length, 0, 0⟩ := by simp [signR, ho]
    rw [e]
    simp only
    obtain ⟨h1, k, hk, hko, hb⟩ := List.find?_eq_some_iff_getElem.1 ho
    subst hko
    refine signR_at _ k hk (fun j hj => ?_) ?_
    · have := hb j hj
      rw [Bool.eq_false_iff]
      intro hh
      unfold Lib.hasPrefix at hh
      rw [List.isPrefixOf_iff_prefix] at hh
      have h2 := hh.trans (List.take_prefix _ _)
      have h3 : Lib.hasPrefix R opL[j] = true := by unfold Lib.hasPrefix; exact List.isPrefixOf_iff_prefix.2 h2
      rw [h3] at this; simp at this
    · rw [pre_take_iff (Nat.le_refl _)]; exact h1
theorem step_alone {R : List UInt8} {t : Tk} (h0 : R ≠ []) (h : stepR R = .tok t) : stepR (R.take t.len) = .tok t := by
  obtain ⟨hs, hn, he, rfl⟩ := step_tok_is h
  have hl := tok_len R (headD_len h0) he
  have hh := hd_take (R := R) (M := (tokR R).len) hl.1
  have key : tokR (R.take (tokR R).len) = tokR R := by
    unfold tokR at he hl hh ⊢
    split
    · rename_i c; simp only [c, if_true] at hh hl he ⊢; rw [hh, if_pos c]; exact word_alone he
    · rename_i c; simp only [if_neg c] at hh hl he ⊢
      split
      · rename_i d; simp only [d, if_true] at hh hl he ⊢; rw [hh, if_neg c, if_pos d]; exact num_alone (headD_len h0) d he
      · rename_i d; simp only [if_neg d] at hh hl he ⊢
        split
        · rename_i f; simp only [f, if_true] at hh hl he ⊢; rw [hh, if_neg (by rw [f] at c; exact c), if_neg (by rw [f] at d; exact d), if_pos rfl]; exact char_alone he
        · rename_i f; simp only [if_neg f] at hh hl he ⊢; rw [hh, if_neg c, if_neg d, if_neg f]; exact sign_alone he
  unfold stepR
  rw [hh, hs, note_take hn, key, he]
  simp
theorem lex_alone {R : List UInt8} {t : Tk} (h0 : R ≠ []) (h : stepR R = .tok t) : lexG (R.take t.len) 0 = .ok [⟨t.kind, 0, R.take t.len, t.val⟩] := by
  obtain ⟨hs, hn, he, rfl⟩ := step_tok_is h
  have hl := tok_len R (headD_len h0) he
  have hne : R.take (tokR R).len ≠ [] := by intro e; have := congrArg List.length e; rw [List.length_take, List.length_nil] at this; omega
  rw [lexG_eq _ _ hne, step_alone h0 h]
  simp only
  rw [List.take_take, Nat.min_self, List.drop_take, Nat.sub_self, List.take_zero, lexG_nil]
  rfl
theorem kw_let : ∀ x ∈ kwL, isLet (hd x) = true := by decide
theorem kw_hd {l : List UInt8} (h : isLet (hd l) = false) : isKw l = false := by
  rw [Bool.eq_false_iff]; intro e
  have := kw_let l (List.contains_iff_mem.1 e)
  rw [h] at this; cases this
theorem name_hd {l : List UInt8} (h0 : l ≠ []) (h : isLet (hd l) = false) : isName l = false := by
  cases hd' : isDig (hd l) with
  | true => exact isName_dig hd'
  | false =>
    refine isName_pfx ?_
    cases l with
    | nil => exact absurd rfl h0
    | cons b l =>
      have : isWb (b.toNat : Nat) = false := by
        unfold isWb
        have h1 : isLet (b.toNat : Nat) = false := h
        have h2 : isDig (b.toNat : Nat) = false := hd'
        rw [h1, h2]; rfl
      have : pfx isWb (b :: l) = 0 := by
        unfold pfx; rw [if_neg (by rw [this]; simp)]
      rw [this]; simp
theorem let_not_dig {c : Int} (h : isLet c = true) : isDig c = false := by
  simp [isLet] at h; simp [isDig]; omega
theorem kinds_of {R : List UInt8} {t : Tk} (h0 : R ≠ []) (h : stepR R = .tok t) : (t.kind == 1) = isName (R.take t.len) ∧ (t.kind == 2) = isKw (R.take t.len) := by
  obtain ⟨hs, hn, he, rfl⟩ := step_tok_is h
  have hl := tok_len R (headD_len h0) he
  have hh := hd_take (R := R) (M := (tokR R).len) hl.1
  have hne : R.take (tokR R).len ≠ [] := by intro e; have := congrArg List.length e; rw [List.length_take, List.length_nil] at this; omega
  by_cases c : isLet (hd R) = true
  · have e : tokR R = wordR R := by unfold tokR; rw [if_pos c]
    rw [e] at he hl hh hne ⊢
    have hn' : ¬ 24 < pfx isWb R := by intro h; unfold wordR at he; rw [if_pos h] at he; simp [Tk.bad] at he
    have hlen : (wordR R).len = pfx isWb R := by unfold wordR; rw [if_neg hn']; split <;> rfl
    rw [hlen] at hl hh hne ⊢
    have hlt : (R.take (pfx isWb R)).length = pfx isWb R := by simp; omega
    cases hk : isKw (R.take (pfx isWb R)) with
    | true =>
      have : (wordR R).kind = 2 := by unfold wordR; rw [if_neg hn', if_pos hk]
      rw [this, isName_kw hk]; exact ⟨rfl, rfl⟩
    | false =>
      have : (wordR R).kind = 1 := by unfold wordR; rw [if_neg hn', if_neg (by rw [hk]; simp)]
      rw [this, isName_yes (by omega) (by omega) (by have := let_not_dig c; rw [← hh] at this; exact this) (by rw [pfx_take isWb R _ (Nat.le_refl _), hlt]) hk]
      exact ⟨rfl, rfl⟩
  · have c' : isLet (hd (R.take (tokR R).len)) = false := by rw [hh]; simpa using c
    rw [name_hd hne c', kw_hd c']
    have hk : (tokR R).kind = 3 ∨ (tokR R).kind = 4 := by
      unfold tokR at he ⊢
      rw [if_neg c] at he ⊢
      split
      · rename_i d; rw [if_pos d] at he
        unfold numberR at he ⊢
        split
        · rename_i x; rw [if_pos x] at he; simp [Tk.bad] at he
        · rename_i x; rw [if_neg x] at he; split
          · rename_i y; rw [if_pos y] at he; simp [Tk.bad] at he
          · exact Or.inl rfl
      · rename_i d; rw [if_neg d] at he
        split
        · rename_i f; rw [if_pos f] at he
          match R with
          | a :: b :: c :: r => simp only [charR] at he ⊢; split; exact Or.inl rfl; rename_i x; rw [if_neg x] at he; simp [Tk.bad] at he
          | [] => simp [charR, Tk.bad] at he
          | [a] => simp [charR, Tk.bad] at he
          | [a, b] => simp [charR, Tk.bad] at he
        · rename_i f; rw [if_neg f] at he
          unfold signR at he ⊢
          split
          · exact Or.inr rfl
          · rename_i x; rw [x] at he; simp [Tk.bad] at he
    rcases hk with e | e <;> rw [e] <;> exact ⟨rfl, rfl⟩
/-- What LexKinds asks of a token. -/
def Alone (t : T4) : Prop := lexG t.text 0 = .ok [⟨t.kind, 0, t.text, t.val⟩] ∧ (t.kind == 1) = isName t.text ∧ (t.kind == 2) = isKw t.text ∧ t.text.length ≤ 20000
theorem alone_all (l : List UInt8) (hl : l.length ≤ 20000) (ts : List T4) : ∀ k, lexG (l.drop k) k = .ok ts → ∀ t ∈ ts, Alone t := by
  induction ts with
  | nil => intro k h t ht; cases ht
  | cons t0 ts ih =>
    intro k h t ht
    obtain ⟨m, hm, hc⟩ := lex_ok _ (l.drop k) k _ (Nat.le_refl _) h
    rcases hc with ⟨e, _⟩ | ⟨tk, tl, e1, e2, e3, e4⟩
    · cases e
    · cases e3
      rcases List.mem_cons.1 ht with rfl | ht
      · exact ⟨lex_alone e2 e1, (kinds_of e2 e1).1, (kinds_of e2 e1).2, by simp; omega⟩
      · rw [List.drop_drop] at e4
        exact ih _ e4 t ht
end Go.Proofs.YtkbplcfehllbjaaGreatDoor
/- Plain: a text, a new line, another text. -/
namespace Go.Proofs.YtkbplcfehllbjaaGreatDoor
theorem getD_app {l m : List UInt8} {n : Nat} (h : n < l.length) : (l ++ m).getD n 0 = l.getD n 0 := by
  rw [List.getD_eq_getElem?_getD, List.getD_eq_getElem?_getD, List.getElem?_append_left h]
theorem index_app (l m p : List UInt8) (h : 0 ≤ Lib.index l p) : Lib.index (l ++ m) p = Lib.index l p := by
  have hf := index_fits l p h
  by_cases hp : p = []
  · subst hp
    have e : ∀ x : List UInt8, Lib.index x [] = 0 := by intro x; cases x <;> rfl
    rw [e, e]
  · have ht := index_take p hp (l ++ m)
    have key : ∀ l : List UInt8, 0 ≤ Lib.index l p → Lib.index (l ++ m) p = Lib.index l p := by
      intro l
      induction l with
      | nil =>
        intro h
        unfold Lib.index at h
        cases p with
        | nil => exact absurd rfl hp
        | cons b r => simp at h
      | cons b l ih =>
        intro h
        by_cases hb : p.isPrefixOf (b :: l) = true
        · have h2 : p.isPrefixOf (b :: (l ++ m)) = true := by
            rw [List.isPrefixOf_iff_prefix] at hb ⊢
            have := hb.trans (List.prefix_append (b :: l) m)
            simpa using this
          show Lib.index (b :: (l ++ m)) p = _
          unfold Lib.index
          rw [if_pos hb, if_pos h2]
        · have e : Lib.index (b :: l) p = if Lib.index l p == -1 then -1 else Lib.index l p + 1 := by conv => lhs; unfold Lib.index; rw [if_neg hb]
          have hn : ¬ (Lib.index l p == -1) = true := by intro hh; rw [e, if_pos hh] at h; omega
          rw [if_neg hn] at e
          have b1 := index_le l p
          have hne : Lib.index l p ≠ -1 := by simpa using hn
          have hl : 0 ≤ Lib.index l p := by omega
          have hfit := index_fits l p hl
          have hb2 : ¬ p.isPrefixOf (b :: (l ++ m)) = true := by
            intro hh
            apply hb
            rw [List.isPrefixOf_iff_prefix] at hh ⊢
            have h3 : p <+: (b :: l) ++ m := by simpa using hh
            exact List.prefix_of_prefix_length_le h3 (List.prefix_append _ _) (by simp; omega)
          show Lib.index (b :: (l ++ m)) p = _
          conv => lhs; unfold Lib.index
          rw [if_neg hb2, ih hl, if_neg hn, e]
    exact key l h
theorem index_nl (l X : List UInt8) (h : Lib.index l [10] < 0) : Lib.index (l ++ 10 :: X) [10] = l.length := by
  induction l with
  | nil => rfl
  | cons b l ih =>
    by_cases hb : ([10] : List UInt8).isPrefixOf (b :: l) = true
    · have e : Lib.index (b :: l) [10] = 0 := by unfold Lib.index; rw [if_pos hb]
      omega
    · have e : Lib.index (b :: l) [10] = if Lib.index l [10] == -1 then -1 else Lib.index l [10] + 1 := by conv => lhs; unfold Lib.index; rw [if_neg hb]
      have b1 := index_le l [10]
      have hl : Lib.index l [10] < 0 := by
        rw [e] at h; split at h
        · rename_i x; have := eq_of_beq x; omega
        · omega
      have hb2 : ¬ ([10] : List UInt8).isPrefixOf (b :: (l ++ 10 :: X)) = true := by
        intro hh; apply hb; simpa [List.isPrefixOf] using hh
      show Lib.index (b :: (l ++ 10 :: X)) [10] = _
      conv => lhs; unfold Lib.index
      rw [if_neg hb2, ih hl, if_neg (by intro x; have := eq_of_beq x; omega)]
      simp
theorem index_star (l X : List UInt8) (h : Lib.index l [42, 47] < 0) (hX : Lib.index X [42, 47] < 0) : Lib.index (l ++ 10 :: X) [42, 47] < 0 := by
  induction l with
  | nil =>
    have hb : ¬ ([42, 47] : List UInt8).isPrefixOf (10 :: X) = true := by simp [List.isPrefixOf]
    have b1 := index_le X [42, 47]
    show Lib.index (10 :: X) [42, 47] < 0
    unfold Lib.index
    rw [if_neg hb, if_pos (by have : Lib.index X [42, 47] = -1 := by omega
                              rw [this]; rfl)]
    omega
  | cons b l ih =>
    by_cases hb : ([42, 47] : List UInt8).isPrefixOf (b :: l) = true
    · have e : Lib.index (b :: l) [42, 47] = 0 := by unfold Lib.index; rw [if_pos hb]
      omega
    · have e : Lib.index (b :: l) [42, 47] = if Lib.index l [42, 47] == -1 then -1 else Lib.index l [42, 47] + 1 := by conv => lhs; unfold Lib.index; rw [if_neg hb]
      have b1 := index_le l [42, 47]
      have hl : Lib.index l [42, 47] < 0 := by
        rw [e] at h; split at h
        · rename_i x; have := eq_of_beq x; omega
        · omega
      have hb2 : ¬ ([42, 47] : List UInt8).isPrefixOf (b :: (l ++ 10 :: X)) = true := by
        intro hh; apply hb
        cases l with
        | nil => simp [List.isPrefixOf] at hh
        | cons c l => simpa [List.isPrefixOf] using hh
      have b2 := index_le (l ++ 10 :: X) [42, 47]
      have hi := ih hl
      show Lib.index (b :: (l ++ 10 :: X)) [42, 47] < 0
      unfold Lib.index
      rw [if_neg hb2, if_pos (by have : Lib.index (l ++ 10 :: X) [42, 47] = -1 := by omega
                                 rw [this]; rfl)]
      omega
theorem hp_nl {R X p : List UInt8} (hp : (10 : UInt8) ∉ p) : Lib.hasPrefix (R ++ 10 :: X) p = Lib.hasPrefix R p := by
  unfold Lib.hasPrefix
  rw [Bool.eq_iff_iff, List.isPrefixOf_iff_prefix, List.isPrefixOf_iff_prefix]
  constructor
  · intro h
    by_cases hl : p.length ≤ R.length
    · exact List.prefix_of_prefix_length_le h (List.prefix_append _ _) hl
    · exfalso
      apply hp
      obtain ⟨t, ht⟩ := h
      have h1 : (R ++ 10 :: X)[R.length]? = some 10 := by simp
      rw [← ht, List.getElem?_append_left (by omega)] at h1
      exact List.mem_of_getElem? h1
  · intro h; exact h.trans (List.prefix_append _ _)
theorem pfx_nl (p : Int → Bool) (h10 : p 10 = false) (R X : List UInt8) : pfx p (R ++ 10 :: X) = pfx p R := by
  induction R with
  | nil => simp [pfx]; exact h10
  | cons b l ih => simp only [List.cons_append, pfx, ih]
theorem hd_nl {R X : List UInt8} (h : R ≠ []) : hd (R ++ 10 :: X) = hd R := by
  cases R with
  | nil => exact absurd rfl h
  | cons b l => rfl
theorem note_nl {R X : List UInt8} : isNote (R ++ 10 :: X) = isNote R := by
  unfold isNote; rw [hp_nl (by decide), hp_nl (by decide)]
theorem word_nl (R X : List UInt8) : wordR (R ++ 10 :: X) = wordR R := by
  unfold wordR
  rw [pfx_nl isWb (by decide), List.take_append_of_le_length (pfx_le isWb R)]
theorem hexD_nl (R X : List UInt8) : hexD (R ++ 10 :: X) = hexD R := by
  unfold hexD
  rw [hp_nl (by decide)]
  split
  · rename_i h
    have hl := hp_len h
    rw [List.drop_append_of_le_length (by simpa using hl), pfx_nl isHx (by decide)]
  · rfl
theorem stop_le (l : List UInt8) (h0 : 0 < l.length) : (spanR l).stop ≤ l.length := by
  unfold spanR
  split
  · exact pfx_le isDig l
  · split
    · rename_i hx
      obtain ⟨a1, a2, a3⟩ := hexD_pos hx
      have hp := pfx_le isHx (l.drop 2)
      rw [List.length_drop] at hp
      show 2 + _ ≤ _; omega
    · exact h0
theorem span_nl {R X : List UInt8} (h : R ≠ []) : spanR (R ++ 10 :: X) = spanR R := by
  have hh : (R ++ 10 :: X).headD 0 = R.headD 0 := by cases R with
    | nil => exact absurd rfl h
    | cons b l => rfl
  unfold spanR
  rw [hh, hexD_nl, pfx_nl isDig (by decide)]
theorem num_nl {R X : List UInt8} (h : R ≠ []) : numberR (R ++ 10 :: X) = numberR R := by
  have hs := stop_le R (headD_len h)
  unfold numberR
  rw [span_nl h, List.take_append_of_le_length hs]
  have e : ((spanR R).stop < (R ++ 10 :: X).length ∧ isWb (((R ++ 10 :: X).getD (spanR R).stop 0).toNat : Nat) = true) ↔ ((spanR R).stop < R.length ∧ isWb ((R.getD (spanR R).stop 0).toNat : Nat) = true) := by
    by_cases hlt : (spanR R).stop < R.length
    · rw [getD_app hlt]
      simp [hlt]; omega
    · have e : (spanR R).stop = R.length := by omega
      rw [e]
      simp
      decide
  by_cases c : (spanR R).stop < R.length ∧ isWb ((R.getD (spanR R).stop 0).toNat : Nat) = true
  · rw [if_pos c, if_pos (e.2 c)]
  · rw [if_neg c, if_neg (fun x => c (e.1 x))]
theorem char_nl {R X : List UInt8} (h : R ≠ []) : charR (R ++ 10 :: X) = charR R := by
  match R with
  | a :: b :: c :: r => rfl
  | [] => exact absurd rfl h
  | [a, b] => simp [charR]
  | [a] =>
    cases X with
    | nil => rfl
    | cons x X => simp only [List.cons_append, List.nil_append, charR]; rw [if_neg]; intro ⟨_, h⟩; revert h; decide
theorem ops_nl : ∀ o ∈ opL, (10 : UInt8) ∉ o := by decide
theorem sign_nl (R X : List UInt8) : signR (R ++ 10 :: X) = signR R := by
  have e : opL.find? (fun o => Lib.hasPrefix (R ++ 10 :: X) o) = opL.find? (fun o => Lib.hasPrefix R o) := by
    have key : ∀ L : List (List UInt8), (∀ o ∈ L, (10 : UInt8) ∉ o) → L.find? (fun o => Lib.hasPrefix (R ++ 10 :: X) o) = L.find? (fun o => Lib.hasPrefix R o) := by
      intro L
      induction L with
      | nil => intro _; rfl
      | cons o L ih =>
        intro h
        simp only [List.find?_cons, hp_nl (h o (List.mem_cons_self ..))]
        rw [ih (fun x hx => h x (List.mem_cons_of_mem _ hx))]
    exact key opL ops_nl
  unfold signR
  rw [e]
theorem tok_nl {R X : List UInt8} (h : R ≠ []) : tokR (R ++ 10 :: X) = tokR R := by
  unfold tokR
  rw [hd_nl h, word_nl, num_nl h, char_nl h, sign_nl]
theorem comment_nl {R X : List UInt8} (h2 : 2 ≤ R.length) :
    (commentR R ≠ 0 → (R.getD 1 0 ≠ 42 → 0 ≤ Lib.index (R.drop 2) [10]) → commentR (R ++ 10 :: X) = commentR R) ∧
    (commentR R = 0 → Lib.index X [42, 47] < 0 → commentR (R ++ 10 :: X) = 0) ∧
    (R.getD 1 0 ≠ 42 → Lib.index (R.drop 2) [10] < 0 → commentR R = R.length ∧ commentR (R ++ 10 :: X) = R.length + 1) := by
  have hg : (R ++ 10 :: X).getD 1 0 = R.getD 1 0 := getD_app (by omega)
  have hdr : (R ++ 10 :: X).drop 2 = R.drop 2 ++ 10 :: X := List.drop_append_of_le_length h2
  refine ⟨fun h hl => ?_, fun h hX => ?_, fun h42 hl => ?_⟩
  · unfold commentR at h ⊢
    rw [hg, hdr]
    by_cases h42 : R.getD 1 0 = 42
    · rw [if_pos h42] at h ⊢
      rw [if_pos h42]
      by_cases hi : Lib.index (R.drop 2) [42, 47] < 0
      · rw [if_pos hi] at h; exact absurd rfl h
      · rw [index_app _ _ _ (by omega)]
    · rw [if_neg h42, if_neg h42, index_app _ _ _ (hl h42), if_neg (by have := hl h42; omega), if_neg (by have := hl h42; omega)]
  · unfold commentR at h ⊢
    rw [hg, hdr]
    by_cases h42 : R.getD 1 0 = 42
    · rw [if_pos h42] at h ⊢
      by_cases hi : Lib.index (R.drop 2) [42, 47] < 0
      · rw [if_pos (index_star _ _ hi hX)]
      · rw [if_neg hi] at h; omega
    · rw [if_neg h42] at h
      split at h <;> omega
  · unfold commentR
    rw [hg, hdr, if_neg h42, if_neg h42, if_pos hl, index_nl _ _ hl, if_neg (by omega)]
    simp; omega
/-- the text of both: the first one's tokens, then the second one's. -/
theorem lex_nl (X : List UInt8) (f : Nat) : ∀ (R : List UInt8) (a : Nat), R.length ≤ f →
    (∀ ts, lexG R a = .ok ts → lexG (R ++ 10 :: X) a = Res.pre ts (lexG X (a + R.length + 1))) ∧
    (Lib.index X [42, 47] < 0 → ∀ p e, lexG R a = .bad p e → lexG (R ++ 10 :: X) a = .bad p e) := by
  have base : ∀ a, lexG (10 :: X) a = lexG X (a + 1) := fun a => step_sp (by simp) (by rfl)
  induction f with
  | zero =>
    intro R a hl
    have : R = [] := List.eq_nil_of_length_eq_zero (by omega)
    subst this
    refine ⟨fun ts h => ?_, fun _ p e h => ?_⟩
    · rw [lexG_nil] at h; cases h
      rw [preL_nil]; exact base a
    · rw [lexG_nil] at h; cases h
  | succ f ih =>
    intro R a hl
    by_cases hR : R = []
    · subst hR
      refine ⟨fun ts h => ?_, fun _ p e h => ?_⟩
      · rw [lexG_nil] at h; cases h
        rw [preL_nil]; exact base a
      · rw [lexG_nil] at h; cases h
    · have hne : R ++ 10 :: X ≠ [] := by simp
      have hlen := headD_len hR
      cases hs : isSp (hd R) with
      | true =>
        have e1 := step_sp (k := a) hR hs
        have e2 := step_sp (R := R ++ 10 :: X) (k := a) hne (by rw [hd_nl hR]; exact hs)
        rw [List.drop_append_of_le_length (by omega)] at e2
        obtain ⟨i1, i2⟩ := ih (R.drop 1) (a + 1) (by simp; omega)
        rw [List.length_drop] at i1
        refine ⟨fun ts h => ?_, fun hX p e h => ?_⟩
        · rw [e1] at h; rw [e2, i1 ts h]; congr 2; omega
        · rw [e1] at h; rw [e2]; exact i2 hX p e h
      | false =>
        cases hn : isNote R with
        | true =>
          have h2 := note_len hn
          obtain ⟨c1, c2, c3⟩ := comment_nl (X := X) h2
          have hcl := comment_len R h2
          by_cases h0 : commentR R = 0
          · have e1 := step_note0 (k := a) hR hs hn h0
            refine ⟨fun ts h => ?_, fun hX p e h => ?_⟩
            · rw [e1] at h; cases h
            · rw [e1] at h; cases h
              exact step_note0 hne (by rw [hd_nl hR]; exact hs) (by rw [note_nl]; exact hn) (c2 h0 hX)
          · obtain ⟨n, hcn⟩ : ∃ n : Nat, commentR R = n := ⟨(commentR R).toNat, by omega⟩
            have e1 := step_note (k := a) hR hs hn n (by omega) hcn
            by_cases hun : R.getD 1 0 ≠ 42 ∧ Lib.index (R.drop 2) [10] < 0
            · obtain ⟨d1, d2⟩ := c3 hun.1 hun.2
              have e2 := step_note (R := R ++ 10 :: X) (k := a) hne (by rw [hd_nl hR]; exact hs) (by rw [note_nl]; exact hn) (R.length + 1) (by omega) (by rw [d2]; simp)
              have hnl : n = R.length := by omega
              subst hnl
              rw [List.drop_length, lexG_nil] at e1
              have hdrop : (R ++ 10 :: X).drop (R.length + 1) = X := by
                rw [List.drop_append]; simp
              rw [hdrop] at e2
              refine ⟨fun ts h => ?_, fun hX p e h => ?_⟩
              · rw [e1] at h; cases h; rw [preL_nil, e2]; rfl
              · rw [e1] at h; cases h
            · have hsame := c1 h0 (fun h42 => by
                by_cases hi : Lib.index (R.drop 2) [10] < 0
                · exact absurd ⟨h42, hi⟩ hun
                · omega)
              have e2 := step_note (R := R ++ 10 :: X) (k := a) hne (by rw [hd_nl hR]; exact hs) (by rw [note_nl]; exact hn) n (by omega) (by rw [hsame]; exact hcn)
              rw [List.drop_append_of_le_length (by omega)] at e2
              obtain ⟨i1, i2⟩ := ih (R.drop n) (a + n) (by simp; omega)
              rw [List.length_drop] at i1
              refine ⟨fun ts h => ?_, fun hX p e h => ?_⟩
              · rw [e1] at h; rw [e2, i1 ts h]; congr 2; omega
              · rw [e1] at h; rw [e2]; exact i2 hX p e h
        | false =>
          by_cases he : (tokR R).err = 0
          · have e1 := step_tok (k := a) hR hs hn he
            have e2 := step_tok (R := R ++ 10 :: X) (k := a) hne (by rw [hd_nl hR]; exact hs) (by rw [note_nl]; exact hn) (by rw [tok_nl hR]; exact he)
            rw [tok_nl hR] at e2
            obtain ⟨l1, l2⟩ := tok_len R hlen he
            rw [List.drop_append_of_le_length l2, List.take_append_of_le_length l2] at e2
            obtain ⟨i1, i2⟩ := ih (R.drop (tokR R).len) (a + (tokR R).len) (by simp; omega)
            rw [List.length_drop] at i1
            refine ⟨fun ts h => ?_, fun hX p e h => ?_⟩
            · rw [e1] at h
              cases hr : lexG (R.drop (tokR R).len) (a + (tokR R).len) with
              | bad p e => rw [hr] at h; cases h
              | ok tl =>
                rw [hr] at h; cases h
                rw [e2, i1 tl hr]
                have : a + (tokR R).len + (R.length - (tokR R).len) + 1 = a + R.length + 1 := by omega
                rw [this]
                cases lexG X (a + R.length + 1) <;> rfl
            · rw [e1] at h
              cases hr : lexG (R.drop (tokR R).len) (a + (tokR R).len) with
              | ok tl => rw [hr] at h; cases h
              | bad p' e' => rw [hr] at h; cases h; rw [e2, i2 hX _ _ hr]; rfl
          · have e1 := step_bad (k := a) hR hs hn he
            have e2 := step_bad (R := R ++ 10 :: X) (k := a) hne (by rw [hd_nl hR]; exact hs) (by rw [note_nl]; exact hn) (by rw [tok_nl hR]; exact he)
            rw [tok_nl hR] at e2
            refine ⟨fun ts h => ?_, fun hX p e h => ?_⟩
            · rw [e1] at h; cases h
            · rw [e1] at h; cases h; exact e2
/-- where a text is lexed from turns nothing but the places. -/
def T4.shift (d : Nat) (t : T4) : T4 := { t with pos := t.pos + d }
def Res.shift (d : Nat) : Res → Res
  | .ok l => .ok (l.map (T4.shift d))
  | .bad p e => .bad (p + d) e
theorem lex_shift (f : Nat) : ∀ (R : List UInt8) (a d : Nat), R.length ≤ f → lexG R (a + d) = (lexG R a).shift d := by
  induction f with
  | zero =>
    intro R a d hl
    have : R = [] := List.eq_nil_of_length_eq_zero (by omega)
    subst this; rfl
  | succ f ih =>
    intro R a d hl
    by_cases hR : R = []
    · subst hR; rfl
    · rw [lexG_eq R _ hR, lexG_eq R a hR]
      cases hs : stepR R with
      | skip n =>
        have := step_skip_le hR hs
        simp only
        rw [show a + d + n = a + n + d by omega]
        exact ih _ _ _ (by simp; omega)
      | bad e => rfl
      | tok t =>
        obtain ⟨_, _, he, ht⟩ := step_tok_is hs
        have htl := tok_len R (headD_len hR) he
        rw [← ht] at htl
        simp only
        rw [show a + d + t.len = a + t.len + d by omega, ih _ _ _ (by simp; omega)]
        cases lexG (R.drop t.len) (a + t.len) <;> rfl
end Go.Proofs.YtkbplcfehllbjaaGreatDoor
/- Plain: where a source is refused; a whole that is read. -/
namespace Go.Proofs.YtkbplcfehllbjaaGreatDoor
theorem PR.bind_eq_ok {α β : Type} {x : PR α} {f : α → List T4 → PR β} {b : β} {r : List T4} (h : x.bind f = .ok b r) : ∃ a r1, x = .ok a r1 ∧ f a r1 = .ok b r := by
  cases x with
  | ok a r1 => exact ⟨a, r1, rfl, h⟩
  | err p e => cases h
theorem finP_ok (n : Nd) (r : List T4) : finP (.ok n r) = if 250 < ndH n then .err 0 4 else .ok n r := rfl
theorem rises_pos {l : List UInt8} : ∀ (ts : List T4) (last : Nat), Rises l last ts → ∀ t ∈ ts, t.pos ≤ l.length ∧ t.text ≠ []
  | [], _, _, t, ht => by cases ht
  | a :: ts, last, ⟨_, h2, h3, _, _, h4⟩, t, ht => by
    rcases List.mem_cons.1 ht with e | ht
    · subst e; exact ⟨by omega, h3⟩
    · exact rises_pos ts _ h4 t ht
theorem tokensR_G {l : List UInt8} {ts : List T4} (h : tokensR l = .ok ts) : lexG l 0 = .ok ts := by
  unfold tokensR at h
  split at h
  · cases h
  · exact h
theorem tokensR_pos {l : List UInt8} {ts : List T4} (h : tokensR l = .ok ts) : ∀ t ∈ ts, t.pos ≤ l.length ∧ t.text ≠ [] :=
  rises_pos ts 0 (rises_of l ts 0 (Nat.zero_le _) (by simpa using tokensR_G h))
theorem parseP_pos {s : List UInt8} {p : Nat} {e : Int} (h : parseP s = .err p e) : p ≤ s.length := by
  unfold parseP at h
  cases ht : tokensR s with
  | bad q f =>
    rw [ht] at h
    cases h
    unfold tokensR at ht
    split at ht
    · cases ht; exact Nat.zero_le _
    · have := lex_bad _ s 0 p e (Nat.le_refl _) ht; omega
  | ok l =>
    rw [ht] at h
    dsimp only at h
    cases hu : unitP (l ++ [⟨0, s.length, [], 0⟩]) with
    | ok n r =>
      rw [hu, finP_ok] at h
      split at h
      · cases h; exact Nat.zero_le _
      · cases h
    | err q f =>
      rw [hu] at h
      cases h
      exact unit_pos (fun t ht' => by
        rcases List.mem_append.1 ht' with h | h
        · exact (tokensR_pos ht t h).1
        · simp at h; subst h; exact Nat.le_refl _) hu
def itemK (n : Nd) : Prop := n.kind = 20 ∨ n.kind = 21 ∨ n.kind = 22
theorem declaredP_kind {R : Rec} {k : Int} {t : Ty} {ts : List T4} {n : Nd} {r : List T4} (h : declaredP R k t ts = .ok n r) : n.kind = k := by
  unfold declaredP at h
  split at h
  · obtain ⟨_, _, _, h⟩ := PR.bind_eq_ok h
    obtain ⟨_, _, _, h⟩ := PR.bind_eq_ok h
    obtain ⟨_, _, _, h⟩ := PR.bind_eq_ok h
    obtain ⟨_, _, _, h⟩ := PR.bind_eq_ok h
    obtain ⟨_, _, _, h⟩ := PR.bind_eq_ok h
    cases h; rfl
  · obtain ⟨_, _, _, h⟩ := PR.bind_eq_ok h
    obtain ⟨_, _, _, h⟩ := PR.bind_eq_ok h
    cases h; rfl
theorem itemP_kind {R R1 : Rec} {ts : List T4} {n : Nd} {r : List T4} (h : itemP R R1 ts = .ok n r) : itemK n := by
  unfold itemP at h
  obtain ⟨t, r1, _, h⟩ := PR.bind_eq_ok h
  split at h
  · unfold recordP at h
    obtain ⟨_, _, _, h⟩ := PR.bind_eq_ok h
    obtain ⟨_, _, _, h⟩ := PR.bind_eq_ok h
    obtain ⟨_, _, _, h⟩ := PR.bind_eq_ok h
    cases h; exact .inl rfl
  · dsimp only at h
    split at h
    · unfold functionP at h
      obtain ⟨_, _, _, h⟩ := PR.bind_eq_ok h
      obtain ⟨_, _, _, h⟩ := PR.bind_eq_ok h
      obtain ⟨_, _, _, h⟩ := PR.bind_eq_ok h
      cases h; exact .inr (.inr rfl)
    · obtain ⟨m, _, hm, h⟩ := PR.bind_eq_ok h
      obtain ⟨_, _, _, h⟩ := PR.bind_eq_ok h
      cases h; exact .inr (.inl (declaredP_kind hm))
theorem unit_kinds {R R1 : Rec} : ∀ (n : Nat) (l : List Nd) (ts : List T4) (l' : List Nd) (r : List T4), (∀ k ∈ l, itemK k) → loopP (unitStep R R1) n l ts = .ok l' r → ∀ k ∈ l', itemK k := by
  intro n
  induction n with
  | zero => intro l ts l' r _ h; cases h
  | succ n ih =>
    intro l ts l' r hl h
    unfold loopP at h
    unfold unitStep at h
    by_cases hk : (hdT ts).kind = 0
    · rw [if_pos hk] at h
      cases h; exact hl
    · rw [if_neg hk] at h
      cases hi : itemP R R1 ts with
      | err p e => rw [hi] at h; cases h
      | ok a r1 =>
        rw [hi] at h
        exact ih (l ++ [a]) r1 l' r (fun k hk => by
          rcases List.mem_append.1 hk with hk | hk
          · exact hl k hk
          · simp at hk; subst hk; exact itemP_kind hi) h
theorem parseP_ok {s : List UInt8} {n : Nd} {r : List T4} (h : parseP s = .ok n r) : n.kind = 23 ∧ ndH n ≤ 250 ∧ (∀ k ∈ n.kids, itemK k) ∧ n.text = [] ∧ n.num = 0 ∧ n.typ = Ty.none ∧ s.length ≤ 20000 := by
  unfold parseP at h
  cases ht : tokensR s with
  | bad q f => rw [ht] at h; cases h
  | ok l =>
    rw [ht] at h
    dsimp only at h
    cases hu : unitP (l ++ [⟨0, s.length, [], 0⟩]) with
    | err q f => rw [hu] at h; cases h
    | ok m r1 =>
      rw [hu, finP_ok] at h
      split at h
      · cases h
      · cases h
        unfold unitP at hu
        obtain ⟨L, r2, hL, hu⟩ := PR.bind_eq_ok hu
        cases hu
        exact ⟨rfl, by omega, unit_kinds _ [] _ _ _ (by simp) hL, rfl, rfl, rfl, (tokensR_len ht).1⟩
/-- No error is without a number. -/
theorem parseP_nz {s : List UInt8} {p : Nat} {e : Int} (h : parseP s = .err p e) : e ≠ 0 := by
  unfold parseP at h
  cases ht : tokensR s with
  | bad q f => rw [ht] at h; cases h; exact tokensR_bad ht
  | ok l =>
    rw [ht] at h
    dsimp only at h
    cases hu : unitP (l ++ [⟨0, s.length, [], 0⟩]) with
    | ok n r =>
      rw [hu, finP_ok] at h
      split at h
      · cases h; decide
      · cases h
    | err q f => rw [hu] at h; cases h; exact unitP_nz rfl rfl hu
end Go.Proofs.YtkbplcfehllbjaaGreatDoor
/- Plain: the texts of two sources one behind the other, and of brackets. -/
namespace Go.Proofs.YtkbplcfehllbjaaGreatDoor
theorem step_kind {R : List UInt8} {t : Tk} (h : stepR R = .tok t) : t.kind ≠ 0 := by
  obtain ⟨_, _, he, rfl⟩ := step_tok_is h
  unfold tokR at he ⊢
  by_cases c1 : isLet (hd R) = true
  · rw [if_pos c1] at he ⊢
    unfold wordR at he ⊢
    split
    · rename_i x; rw [if_pos x] at he; simp [Tk.bad] at he
    · split
      · show (2 : Int) ≠ 0; decide
      · show (1 : Int) ≠ 0; decide
  · rw [if_neg c1] at he ⊢
    split
    · rename_i d; rw [if_pos d] at he
      unfold numberR at he ⊢
      split
      · rename_i x; rw [if_pos x] at he; simp [Tk.bad] at he
      · rename_i x; rw [if_neg x] at he; split
        · rename_i y; rw [if_pos y] at he; simp [Tk.bad] at he
        · show (3 : Int) ≠ 0; decide
    · rename_i d; rw [if_neg d] at he
      split
      · rename_i f; rw [if_pos f] at he
        match R with
        | a :: b :: c :: r =>
          simp only [charR] at he ⊢
          split
          · show (3 : Int) ≠ 0; decide
          · rename_i x; rw [if_neg x] at he; simp [Tk.bad] at he
        | [] => simp [charR, Tk.bad] at he
        | [a] => simp [charR, Tk.bad] at he
        | [a, b] => simp [charR, Tk.bad] at he
      · rename_i f; rw [if_neg f] at he
        unfold signR at he ⊢
        split
        · show (4 : Int) ≠ 0; decide
        · rename_i x; rw [x] at he; simp [Tk.bad] at he
theorem isKw_un {l : List UInt8} (h : isKw l = true) : isUn l = false ∧ l ≠ [40] := by
  have hm : l ∈ kwL := by unfold isKw at h; exact List.contains_iff_mem.1 h
  have : ∀ x ∈ kwL, isUn x = false ∧ x ≠ [40] := by decide
  exact this l hm
theorem lex_facts (R : List UInt8) (ts : List T4) : ∀ (k j : Nat), lexG (R.drop j) k = .ok ts → ∀ t ∈ ts, t.kind ≠ 0 ∧ (t.kind = 2 → isUn t.text = false ∧ t.text ≠ [40]) := by
  induction ts with
  | nil => intro k j h t ht; cases ht
  | cons t0 ts ih =>
    intro k j h t ht
    obtain ⟨m, hm, hc⟩ := lex_ok _ (R.drop j) k _ (Nat.le_refl _) h
    rcases hc with ⟨e, _⟩ | ⟨tk, tl, e1, e2, e3, e4⟩
    · cases e
    · cases e3
      rcases List.mem_cons.1 ht with rfl | ht
      · refine ⟨step_kind e1, fun h2 => isKw_un ?_⟩
        have := (kinds_of e2 e1).2
        rw [show tk.kind = 2 from h2] at this
        exact this.symm
      · rw [List.drop_drop] at e4
        exact ih _ _ e4 t ht
theorem lex_facts0 {R : List UInt8} {ts : List T4} {k : Nat} (h : lexG R k = .ok ts) : ∀ t ∈ ts, t.kind ≠ 0 ∧ (t.kind = 2 → isUn t.text = false ∧ t.text ≠ [40]) :=
  lex_facts R ts k 0 (by simpa using h)
theorem tokensR_of {l : List UInt8} {ts : List T4} (h : lexG l 0 = .ok ts) (hl : l.length ≤ 20000) : tokensR l = .ok ts := by
  unfold tokensR; rw [if_neg (by omega)]; exact h
theorem shift_key (d : Nat) (ts : List T4) : (ts.map (T4.shift d)).map T4.key = ts.map T4.key := by
  rw [List.map_map]; rfl
theorem lex_at {R : List UInt8} {ts : List T4} {a : Nat} (h : lexG R a = .ok ts) (d : Nat) : lexG R (a + d) = .ok (ts.map (T4.shift d)) := by
  rw [lex_shift _ R a d (Nat.le_refl _), h]; rfl
theorem parseP_tok {s : List UInt8} {l : List T4} (h : tokensR s = .ok l) : parseP s = finP (unitP (l ++ [⟨0, s.length, [], 0⟩])) := by
  unfold parseP; rw [h]
theorem parseP_inv {s : List UInt8} {n : Nd} {r : List T4} (h : parseP s = .ok n r) : ∃ l, tokensR s = .ok l ∧ unitP (l ++ [⟨0, s.length, [], 0⟩]) = .ok n r ∧ ndH n ≤ 250 := by
  cases ht : tokensR s with
  | bad q f => unfold parseP at h; rw [ht] at h; cases h
  | ok l =>
    rw [parseP_tok ht] at h
    cases hu : unitP (l ++ [⟨0, s.length, [], 0⟩]) with
    | err q f => rw [hu] at h; cases h
    | ok m r1 =>
      rw [hu, finP_ok] at h
      split at h
      · cases h
      · cases h; exact ⟨l, rfl, hu, by omega⟩
theorem ndsH_app (a b : List Nd) : ndsH (a ++ b) = max (ndsH a) (ndsH b) := by
  induction a with
  | nil => simp [ndsH]
  | cons x a ih => simp only [List.cons_append, ndsH, ih]; omega
/-- Two sources, the second one behind a new line. -/
theorem parse_join {s t : List UInt8} {n1 n2 : Nd} {r1 r2 : List T4} (h1 : parseP s = .ok n1 r1) (h2 : parseP t = .ok n2 r2) (hl : s.length + t.length < 20000) :
    ∃ r, parseP (s ++ 10 :: t) = .ok (Nd.of 23 (n1.kids ++ n2.kids)) r := by
  obtain ⟨l1, t1, u1, d1⟩ := parseP_inv h1
  obtain ⟨l2, t2, u2, d2⟩ := parseP_inv h2
  have g1 := tokensR_G t1
  have g2 := tokensR_G t2
  have g3 : lexG (s ++ 10 :: t) 0 = .ok (l1 ++ l2.map (T4.shift (s.length + 1))) := by
    rw [(lex_nl t _ s 0 (Nat.le_refl _)).1 l1 g1, show 0 + s.length + 1 = 0 + (s.length + 1) by omega, lex_at g2]; rfl
  have t3 := tokensR_of g3 (by simp; omega)
  have hj := unitP_join (e2 := ⟨0, t.length, [], 0⟩) rfl rfl (fun x hx => (lex_facts0 g1 x hx).1) u1 u2
  have hA := alike_text.unit (l1 ++ (l2 ++ [⟨0, t.length, [], 0⟩])) ((l1 ++ l2.map (T4.shift (s.length + 1))) ++ [⟨0, (s ++ 10 :: t).length, [], 0⟩]) (by
    simp only [List.map_append, shift_key, List.append_assoc]; rfl)
  rw [hj] at hA
  rw [parseP_tok t3]
  cases hu : unitP ((l1 ++ l2.map (T4.shift (s.length + 1))) ++ [⟨0, (s ++ 10 :: t).length, [], 0⟩]) with
  | err p e => rw [hu] at hA; exact hA.elim
  | ok n r =>
    rw [hu] at hA
    obtain ⟨rfl, _⟩ := hA
    refine ⟨r, ?_⟩
    rw [finP_ok, if_neg]
    have e1 : ndH n1 = 1 + ndsH n1.kids := by cases n1; rfl
    have e2 : ndH n2 = 1 + ndsH n2.kids := by cases n2; rfl
    have e3 : ndH (Nd.of 23 (n1.kids ++ n2.kids)) = 1 + ndsH (n1.kids ++ n2.kids) := rfl
    rw [e3, ndsH_app]
    omega
/-- void f() {, and a space. -/
def preB : List UInt8 := [118, 111, 105, 100, 32, 102, 40, 41, 32, 123, 32]
theorem lex_tok1 {R : List UInt8} {a : Nat} {t : Tk} (h : stepR R = .tok t) (h0 : R ≠ []) : lexG R a = (lexG (R.drop t.len) (a + t.len)).cons ⟨t.kind, a, R.take t.len, t.val⟩ := by
  rw [lexG_eq R a h0, h]
theorem lex_skip1 {R : List UInt8} {a n : Nat} (h : stepR R = .skip n) (h0 : R ≠ []) : lexG R a = lexG (R.drop n) (a + n) := by
  rw [lexG_eq R a h0, h]
theorem cons_pre (x : T4) (l : List T4) (r : Res) : (Res.pre l r).cons x = Res.pre (x :: l) r := by cases r <;> rfl
theorem lex_pre (R : List UInt8) : lexG (preB ++ R) 0 = Res.pre preT (lexG R 11) := by
  have h1 : lexG (preB ++ R) 0 = (lexG ([32, 102, 40, 41, 32, 123, 32] ++ R) 4).cons (tW [118, 111, 105, 100] 0) := lex_tok1 (t := ⟨2, 4, 0, 0⟩) rfl (by simp [preB])
  have h2 : lexG ([32, 102, 40, 41, 32, 123, 32] ++ R) 4 = lexG ([102, 40, 41, 32, 123, 32] ++ R) 5 := lex_skip1 (n := 1) rfl (by simp)
  have h3 : lexG ([102, 40, 41, 32, 123, 32] ++ R) 5 = (lexG ([40, 41, 32, 123, 32] ++ R) 6).cons ⟨1, 5, [102], 0⟩ := lex_tok1 (t := ⟨1, 1, 0, 0⟩) rfl (by simp)
  have h4 : lexG ([40, 41, 32, 123, 32] ++ R) 6 = (lexG ([41, 32, 123, 32] ++ R) 7).cons (tS [40] 6) := lex_tok1 (t := ⟨4, 1, 0, 0⟩) rfl (by simp)
  have h5 : lexG ([41, 32, 123, 32] ++ R) 7 = (lexG ([32, 123, 32] ++ R) 8).cons (tS [41] 7) := lex_tok1 (t := ⟨4, 1, 0, 0⟩) rfl (by simp)
  have h6 : lexG ([32, 123, 32] ++ R) 8 = lexG ([123, 32] ++ R) 9 := lex_skip1 (n := 1) rfl (by simp)
  have h7 : lexG ([123, 32] ++ R) 9 = (lexG ([32] ++ R) 10).cons (tS [123] 9) := lex_tok1 (t := ⟨4, 1, 0, 0⟩) rfl (by simp)
  have h8 : lexG ([32] ++ R) 10 = lexG R 11 := lex_skip1 (n := 1) rfl (by simp)
  rw [h1, h2, h3, h4, h5, h6, h7, h8, ← preL_nil (lexG R 11), cons_pre, cons_pre, cons_pre, cons_pre, cons_pre, preL_nil]
  rfl
theorem lex_br (R : List UInt8) (a : Nat) : lexG ([40, 32] ++ R) a = (lexG R (a + 2)).cons (tS [40] a) := by
  have h1 : lexG ([40, 32] ++ R) a = (lexG ([32] ++ R) (a + 1)).cons (tS [40] a) := lex_tok1 (t := ⟨4, 1, 0, 0⟩) rfl (by simp)
  have h2 : lexG ([32] ++ R) (a + 1) = lexG R (a + 2) := lex_skip1 (n := 1) rfl (by simp)
  rw [h1, h2]
def sufA' : List UInt8 := [59, 32, 125]
def sufB : List UInt8 := [41, 32, 47, 42, 32, 110, 32, 42, 47, 32, 59, 32, 125]
theorem lex_sufA (a : Nat) : lexG sufA' a = .ok [tS [59] a, tS [125] (a + 2)] := by
  have h : lexG sufA' 0 = .ok [tS [59] 0, tS [125] 2] := by kernel_rfl
  have := lex_at h a
  rw [Nat.zero_add] at this
  rw [this]
  simp [T4.shift, tS, Nat.add_comm]
theorem lex_sufB (a : Nat) : lexG sufB a = .ok [tS [41] a, tS [59] (a + 10), tS [125] (a + 12)] := by
  have h : lexG sufB 0 = .ok [tS [41] 0, tS [59] 10, tS [125] 12] := by kernel_rfl
  have := lex_at h a
  rw [Nat.zero_add] at this
  rw [this]
  simp [T4.shift, tS, Nat.add_comm]
theorem parse_brackets {s : List UInt8} (hs : s.length ≤ 2000) {a : Nd} {r : List T4} {fn b st : Nd} (h : parseP (preB ++ (s ++ 10 :: sufA')) = .ok a r) (ha : a.kids = [fn]) (hf : fn.kids = [b]) (hb : b.kids = [st]) (hk : st.kind = 12) :
    ∃ x, a = Nd.of 23 [fnN [Nd.of 12 [x]]] ∧ ((∃ r, parseP (preB ++ ([40, 32] ++ (s ++ 10 :: sufB))) = .ok a r) ∨ ∃ q, parseP (preB ++ ([40, 32] ++ (s ++ 10 :: sufB))) = .err q 4) := by
  obtain ⟨l, t1, u1, d1⟩ := parseP_inv h
  have g1 := tokensR_G t1
  rw [lex_pre] at g1
  cases hg : lexG s 11 with
  | bad p e =>
    exfalso
    rw [(lex_nl sufA' _ s 11 (Nat.le_refl _)).2 (by decide) p e hg] at g1
    cases g1
  | ok ts =>
    rw [(lex_nl sufA' _ s 11 (Nat.le_refl _)).1 ts hg, lex_sufA] at g1
    have hl : preT ++ (ts ++ [tS [59] (11 + s.length + 1), tS [125] (11 + s.length + 1 + 2)]) = l := by simpa [Res.pre] using g1
    subst hl
    have hfacts := lex_facts0 hg
    have u1' : unitP (preT ++ (ts ++ [tS [59] (11 + s.length + 1), tS [125] (11 + s.length + 1 + 2), ⟨0, (preB ++ (s ++ 10 :: sufA')).length, [], 0⟩])) = .ok a r := by
      rw [← u1]; simp
    obtain ⟨x, hx, rfl⟩ := bare (fun t ht => (hfacts t ht).1) u1' ha hf hb hk
    refine ⟨x, rfl, ?_⟩
    have hbr := bracketed (q0 := 0) (q1 := 0) (fun t ts' e h2 => (hfacts t (by rw [e]; exact List.mem_cons_self ..)).2 h2) hx
    have g2 : lexG (preB ++ ([40, 32] ++ (s ++ 10 :: sufB))) 0 = .ok (preT ++ (tS [40] 11 :: (ts.map (T4.shift 2) ++ [tS [41] (13 + s.length + 1), tS [59] (13 + s.length + 1 + 10), tS [125] (13 + s.length + 1 + 12)]))) := by
      rw [lex_pre, lex_br, (lex_nl sufB _ s 13 (Nat.le_refl _)).1 _ (lex_at hg 2), lex_sufB]; rfl
    have t2 := tokensR_of g2 (by simp [preB, sufB]; omega)
    rw [parseP_tok t2]
    have hA := alike_text.unit (preT ++ (tS [40] 0 :: (ts ++ [tS [41] 0, tS [59] (11 + s.length + 1), tS [125] (11 + s.length + 1 + 2), ⟨0, (preB ++ (s ++ 10 :: sufA')).length, [], 0⟩])))
      ((preT ++ (tS [40] 11 :: (ts.map (T4.shift 2) ++ [tS [41] (13 + s.length + 1), tS [59] (13 + s.length + 1 + 10), tS [125] (13 + s.length + 1 + 12)]))) ++ [⟨0, (preB ++ ([40, 32] ++ (s ++ 10 :: sufB))).length, [], 0⟩]) (by
        simp only [List.map_append, List.map_cons, shift_key, List.append_assoc, List.cons_append, List.map_nil, List.nil_append]; rfl)
    rcases hbr with ⟨r', hb1⟩ | ⟨q, hb1⟩
    · left
      rw [hb1] at hA
      cases hu : unitP ((preT ++ (tS [40] 11 :: (ts.map (T4.shift 2) ++ [tS [41] (13 + s.length + 1), tS [59] (13 + s.length + 1 + 10), tS [125] (13 + s.length + 1 + 12)]))) ++ [⟨0, (preB ++ ([40, 32] ++ (s ++ 10 :: sufB))).length, [], 0⟩]) with
      | err p e => rw [hu] at hA; exact hA.elim
      | ok n r2 =>
        rw [hu] at hA
        obtain ⟨rfl, _⟩ := hA
        exact ⟨r2, by rw [finP_ok, if_neg (by omega)]⟩
    · right
      rw [hb1] at hA
      cases hu : unitP ((preT ++ (tS [40] 11 :: (ts.map (T4.shift 2) ++ [tS [41] (13 + s.length + 1), tS [59] (13 + s.length + 1 + 10), tS [125] (13 + s.length + 1 + 12)]))) ++ [⟨0, (preB ++ ([40, 32] ++ (s ++ 10 :: sufB))).length, [], 0⟩]) with
      | ok n r2 => rw [hu] at hA; exact hA.elim
      | err p e =>
        rw [hu] at hA
        exact ⟨p, by unfold finP; rw [← hA.2]⟩
end Go.Proofs.YtkbplcfehllbjaaGreatDoor
