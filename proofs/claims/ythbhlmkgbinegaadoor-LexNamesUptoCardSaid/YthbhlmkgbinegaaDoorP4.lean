/- Plain: a token's text alone is that token; names are names, words are words. -/
import Derived.Test.YthbhlmkgbinegaaDoorP3
namespace Go.Proofs.YthbhlmkgbinegaaDoor
theorem pfx_take (p : Int → Bool) (l : List UInt8) : ∀ m : Nat, m ≤ pfx p l → pfx p (l.take m) = m := by
  induction l with
  | nil => intro m h; simp [pfx] at h; subst h; rfl
  | cons b l ih =>
    intro m h
    cases m with
    | zero => rfl
    | succ m =>
      simp only [pfx] at h
      split at h
      · rename_i hb
        rw [List.take_succ_cons]
        simp only [pfx, hb, if_true]
        rw [ih m (by omega)]
      · omega
theorem note_short {l : List UInt8} (h : l.length < 2) : isNote l = false := by
  rw [Bool.eq_false_iff]; intro e; have := note_len e; omega
theorem note_take {R : List UInt8} {M : Nat} (h : isNote R = false) : isNote (R.take M) = false := by
  by_cases hM : 2 ≤ M
  · unfold isNote at h ⊢; rw [pre_take_iff (by simpa using hM), pre_take_iff (by simpa using hM)]; exact h
  · exact note_short (by simp; omega)
theorem word_alone {R : List UInt8} (he : (wordR R).err = 0) : wordR (R.take (wordR R).len) = wordR R := by
  have hn : ¬ 24 < pfx isWb R := by intro h; unfold wordR at he; rw [if_pos h] at he; simp [Tk.bad] at he
  have hl : (wordR R).len = pfx isWb R := by unfold wordR; rw [if_neg hn]; split <;> rfl
  rw [hl]
  unfold wordR
  rw [pfx_take isWb R _ (Nat.le_refl _), List.take_take, Nat.min_self]
theorem headD_take {R : List UInt8} {M : Nat} (hM : 1 ≤ M) : (R.take M).headD 0 = R.headD 0 := by
  cases R with
  | nil => simp
  | cons b l => cases M with
    | zero => omega
    | succ M => simp
theorem hexD_take {R : List UInt8} (h : 0 < hexD R) : hexD (R.take (2 + hexD R)) = hexD R := by
  obtain ⟨h1, h2, h3⟩ := hexD_pos h
  have hp : Lib.hasPrefix R [48, 120] = true := by
    cases e : Lib.hasPrefix R [48, 120] with
    | true => rfl
    | false => unfold hexD at h; rw [e] at h; simp at h
  generalize hexD R = m at *
  unfold hexD
  rw [pre_take_iff (by simp), hp, if_pos rfl, List.drop_take, show 2 + m - 2 = m by omega, pfx_take isHx _ _ h2]
  omega
theorem num_alone {R : List UInt8} (h0 : 0 < R.length) (hd0 : isDig (hd R) = true) (he : (numberR R).err = 0) : numberR (R.take (numberR R).len) = numberR R := by
  have c1 : ¬ ((spanR R).stop < R.length ∧ isWb ((R.getD (spanR R).stop 0).toNat : Nat) = true) := by
    intro h; unfold numberR at he; rw [if_pos h] at he; simp [Tk.bad] at he
  have c2 : ¬ 9223372036854775808 ≤ valN (spanR R).base ((R.take (spanR R).stop).drop (spanR R).start) := by
    intro h; unfold numberR at he; rw [if_neg c1, if_pos h] at he; simp [Tk.bad] at he
  have e1 : numberR R = ⟨3, (spanR R).stop, valN (spanR R).base ((R.take (spanR R).stop).drop (spanR R).start), 0⟩ := by
    unfold numberR; rw [if_neg c1, if_neg c2]
  have hl := num_len R hd0 h0 he
  rw [e1] at hl ⊢
  simp only at hl ⊢
  have hsp : spanR (R.take (spanR R).stop) = spanR R := by
    have hh := headD_take (R := R) (M := (spanR R).stop) hl.1
    unfold spanR at hh hl ⊢
    split at hh
    · rename_i c; rw [if_pos c] at hl ⊢; rw [if_pos (by rw [hh]; exact c), pfx_take isDig R _ (Nat.le_refl _)]
    · rename_i c
      split at hh
      · rename_i hx; rw [if_neg c, if_pos hx] at hl ⊢
        rw [if_neg (by rw [hh]; exact c), hexD_take hx, if_pos hx]
      · rename_i hx
        rw [if_neg c, if_neg hx] at hl ⊢
        have h1 : hexD (R.take 1) = 0 := by
          unfold hexD
          rw [if_neg]
          intro e; have := hp_len e; simp at this; omega
        rw [if_neg (by rw [hh]; exact c), h1, if_neg (by omega)]
  unfold numberR
  rw [hsp, if_neg (by intro ⟨h, _⟩; simp at h; omega), List.take_take, Nat.min_self, if_neg c2]
theorem char_alone {R : List UInt8} (he : (charR R).err = 0) : charR (R.take (charR R).len) = charR R := by
  match R with
  | a :: b :: c :: r =>
    by_cases h : c = 39 ∧ isPl (b.toNat : Nat) = true
    · simp [charR, h]
    · simp only [charR, if_neg h] at he; simp [Tk.bad] at he
  | [] => simp [charR, Tk.bad] at he
  | [a] => simp [charR, Tk.bad] at he
  | [a, b] => simp [charR, Tk.bad] at he
theorem sign_alone {R : List UInt8} (he : (signR R).err = 0) : signR (R.take (signR R).len) = signR R := by
  cases ho : opL.find? (fun o => Lib.hasPrefix R o) with
  | none => simp [signR, ho, Tk.bad] at he
  | some o =>
    have e : signR R = ⟨4, o.length, 0, 0⟩ := by simp [signR, ho]
    rw [e]
    simp only
    obtain ⟨h1, k, hk, hko, hb⟩ := List.find?_eq_some_iff_getElem.1 ho
    subst hko
    refine signR_at _ k hk (fun j hj => ?_) ?_
    · have := hb j hj
      rw [Bool.eq_false_iff]
      intro hh
      unfold Lib.hasPrefix at hh
      rw [List.isPrefixOf_iff_prefix] at hh
      have h2 := hh.trans (List.take_prefix _ _)
      have h3 : Lib.hasPrefix R opL[j] = true := by unfold Lib.hasPrefix; exact List.isPrefixOf_iff_prefix.2 h2
      rw [h3] at this; simp at this
    · rw [pre_take_iff (Nat.le_refl _)]; exact h1
theorem step_alone {R : List UInt8} {t : Tk} (h0 : R ≠ []) (h : stepR R = .tok t) : stepR (R.take t.len) = .tok t := by
  obtain ⟨hs, hn, he, rfl⟩ := step_tok_is h
  have hl := tok_len R (headD_len h0) he
  have hh := hd_take (R := R) (M := (tokR R).len) hl.1
  have key : tokR (R.take (tokR R).len) = tokR R := by
    unfold tokR at he hl hh ⊢
    split
    · rename_i c; simp only [c, if_true] at hh hl he ⊢; rw [hh, if_pos c]; exact word_alone he
    · rename_i c; simp only [if_neg c] at hh hl he ⊢
      split
      · rename_i d; simp only [d, if_true] at hh hl he ⊢; rw [hh, if_neg c, if_pos d]; exact num_alone (headD_len h0) d he
      · rename_i d; simp only [if_neg d] at hh hl he ⊢
        split
        · rename_i f; simp only [f, if_true] at hh hl he ⊢; rw [hh, if_neg (by rw [f] at c; exact c), if_neg (by rw [f] at d; exact d), if_pos rfl]; exact char_alone he
        · rename_i f; simp only [if_neg f] at hh hl he ⊢; rw [hh, if_neg c, if_neg d, if_neg f]; exact sign_alone he
  unfold stepR
  rw [hh, hs, note_take hn, key, he]
  simp
theorem lex_alone {R : List UInt8} {t : Tk} (h0 : R ≠ []) (h : stepR R = .tok t) : lexG (R.take t.len) 0 = .ok [⟨t.kind, 0, R.take t.len, t.val⟩] := by
  obtain ⟨hs, hn, he, rfl⟩ := step_tok_is h
  have hl := tok_len R (headD_len h0) he
  have hne : R.take (tokR R).len ≠ [] := by intro e; have := congrArg List.length e; rw [List.length_take, List.length_nil] at this; omega
  rw [lexG_eq _ _ hne, step_alone h0 h]
  simp only
  rw [List.take_take, Nat.min_self, List.drop_take, Nat.sub_self, List.take_zero, lexG_nil]
  rfl
theorem kw_let : ∀ x ∈ kwL, isLet (hd x) = true := by decide
theorem kw_hd {l : List UInt8} (h : isLet (hd l) = false) : isKw l = false := by
  rw [Bool.eq_false_iff]; intro e
  have := kw_let l (List.contains_iff_mem.1 e)
  rw [h] at this; cases this
theorem name_hd {l : List UInt8} (h0 : l ≠ []) (h : isLet (hd l) = false) : isName l = false := by
  cases hd' : isDig (hd l) with
  | true => exact isName_dig hd'
  | false =>
    refine isName_pfx ?_
    cases l with
    | nil => exact absurd rfl h0
    | cons b l =>
      have : isWb (b.toNat : Nat) = false := by
        unfold isWb
        have h1 : isLet (b.toNat : Nat) = false := h
        have h2 : isDig (b.toNat : Nat) = false := hd'
        rw [h1, h2]; rfl
      have : pfx isWb (b :: l) = 0 := by
        unfold pfx; rw [if_neg (by rw [this]; simp)]
      rw [this]; simp
theorem let_not_dig {c : Int} (h : isLet c = true) : isDig c = false := by
  simp [isLet] at h; simp [isDig]; omega
theorem kinds_of {R : List UInt8} {t : Tk} (h0 : R ≠ []) (h : stepR R = .tok t) : (t.kind == 1) = isName (R.take t.len) ∧ (t.kind == 2) = isKw (R.take t.len) := by
  obtain ⟨hs, hn, he, rfl⟩ := step_tok_is h
  have hl := tok_len R (headD_len h0) he
  have hh := hd_take (R := R) (M := (tokR R).len) hl.1
  have hne : R.take (tokR R).len ≠ [] := by intro e; have := congrArg List.length e; rw [List.length_take, List.length_nil] at this; omega
  by_cases c : isLet (hd R) = true
  · have e : tokR R = wordR R := by unfold tokR; rw [if_pos c]
    rw [e] at he hl hh hne ⊢
    have hn' : ¬ 24 < pfx isWb R := by intro h; unfold wordR at he; rw [if_pos h] at he; simp [Tk.bad] at he
    have hlen : (wordR R).len = pfx isWb R := by unfold wordR; rw [if_neg hn']; split <;> rfl
    rw [hlen] at hl hh hne ⊢
    have hlt : (R.take (pfx isWb R)).length = pfx isWb R := by simp; omega
    cases hk : isKw (R.take (pfx isWb R)) with
    | true =>
      have : (wordR R).kind = 2 := by unfold wordR; rw [if_neg hn', if_pos hk]
      rw [this, isName_kw hk]; exact ⟨rfl, rfl⟩
    | false =>
      have : (wordR R).kind = 1 := by unfold wordR; rw [if_neg hn', if_neg (by rw [hk]; simp)]
      rw [this, isName_yes (by omega) (by omega) (by have := let_not_dig c; rw [← hh] at this; exact this) (by rw [pfx_take isWb R _ (Nat.le_refl _), hlt]) hk]
      exact ⟨rfl, rfl⟩
  · have c' : isLet (hd (R.take (tokR R).len)) = false := by rw [hh]; simpa using c
    rw [name_hd hne c', kw_hd c']
    have hk : (tokR R).kind = 3 ∨ (tokR R).kind = 4 := by
      unfold tokR at he ⊢
      rw [if_neg c] at he ⊢
      split
      · rename_i d; rw [if_pos d] at he
        unfold numberR at he ⊢
        split
        · rename_i x; rw [if_pos x] at he; simp [Tk.bad] at he
        · rename_i x; rw [if_neg x] at he; split
          · rename_i y; rw [if_pos y] at he; simp [Tk.bad] at he
          · exact Or.inl rfl
      · rename_i d; rw [if_neg d] at he
        split
        · rename_i f; rw [if_pos f] at he
          match R with
          | a :: b :: c :: r => simp only [charR] at he ⊢; split; exact Or.inl rfl; rename_i x; rw [if_neg x] at he; simp [Tk.bad] at he
          | [] => simp [charR, Tk.bad] at he
          | [a] => simp [charR, Tk.bad] at he
          | [a, b] => simp [charR, Tk.bad] at he
        · rename_i f; rw [if_neg f] at he
          unfold signR at he ⊢
          split
          · exact Or.inr rfl
          · rename_i x; rw [x] at he; simp [Tk.bad] at he
    rcases hk with e | e <;> rw [e] <;> exact ⟨rfl, rfl⟩
/-- What LexKinds asks of a token. -/
def Alone (t : T4) : Prop := lexG t.text 0 = .ok [⟨t.kind, 0, t.text, t.val⟩] ∧ (t.kind == 1) = isName t.text ∧ (t.kind == 2) = isKw t.text ∧ t.text.length ≤ 20000
theorem alone_all (l : List UInt8) (hl : l.length ≤ 20000) (ts : List T4) : ∀ k, lexG (l.drop k) k = .ok ts → ∀ t ∈ ts, Alone t := by
  induction ts with
  | nil => intro k h t ht; cases ht
  | cons t0 ts ih =>
    intro k h t ht
    obtain ⟨m, hm, hc⟩ := lex_ok _ (l.drop k) k _ (Nat.le_refl _) h
    rcases hc with ⟨e, _⟩ | ⟨tk, tl, e1, e2, e3, e4⟩
    · cases e
    · cases e3
      rcases List.mem_cons.1 ht with rfl | ht
      · exact ⟨lex_alone e2 e1, (kinds_of e2 e1).1, (kinds_of e2 e1).2, by simp; omega⟩
      · rw [List.drop_drop] at e4
        exact ih _ e4 t ht
end Go.Proofs.YthbhlmkgbinegaaDoor
