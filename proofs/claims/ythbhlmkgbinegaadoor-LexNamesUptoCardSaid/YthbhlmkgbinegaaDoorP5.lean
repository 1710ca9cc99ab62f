/- Plain: a text, a new line, another text. -/
import Derived.Test.YthbhlmkgbinegaaDoorP4
namespace Go.Proofs.YthbhlmkgbinegaaDoor
theorem getD_app {l m : List UInt8} {n : Nat} (h : n < l.length) : (l ++ m).getD n 0 = l.getD n 0 := by
  rw [List.getD_eq_getElem?_getD, List.getD_eq_getElem?_getD, List.getElem?_append_left h]
theorem index_app (l m p : List UInt8) (h : 0 ≤ Lib.index l p) : Lib.index (l ++ m) p = Lib.index l p := by
  have hf := index_fits l p h
  by_cases hp : p = []
  · subst hp
    have e : ∀ x : List UInt8, Lib.index x [] = 0 := by intro x; cases x <;> rfl
    rw [e, e]
  · have ht := index_take p hp (l ++ m)
    have key : ∀ l : List UInt8, 0 ≤ Lib.index l p → Lib.index (l ++ m) p = Lib.index l p := by
      intro l
      induction l with
      | nil =>
        intro h
        unfold Lib.index at h
        cases p with
        | nil => exact absurd rfl hp
        | cons b r => simp at h
      | cons b l ih =>
        intro h
        by_cases hb : p.isPrefixOf (b :: l) = true
        · have h2 : p.isPrefixOf (b :: (l ++ m)) = true := by
            rw [List.isPrefixOf_iff_prefix] at hb ⊢
            have := hb.trans (List.prefix_append (b :: l) m)
            simpa using this
          show Lib.index (b :: (l ++ m)) p = _
          unfold Lib.index
          rw [if_pos hb, if_pos h2]
        · have e : Lib.index (b :: l) p = if Lib.index l p == -1 then -1 else Lib.index l p + 1 := by conv => lhs; unfold Lib.index; rw [if_neg hb]
          have hn : ¬ (Lib.index l p == -1) = true := by intro hh; rw [e, if_pos hh] at h; omega
          rw [if_neg hn] at e
          have b1 := index_le l p
          have hne : Lib.index l p ≠ -1 := by simpa using hn
          have hl : 0 ≤ Lib.index l p := by omega
          have hfit := index_fits l p hl
          have hb2 : ¬ p.isPrefixOf (b :: (l ++ m)) = true := by
            intro hh
            apply hb
            rw [List.isPrefixOf_iff_prefix] at hh ⊢
            have h3 : p <+: (b :: l) ++ m := by simpa using hh
            exact List.prefix_of_prefix_length_le h3 (List.prefix_append _ _) (by simp; omega)
          show Lib.index (b :: (l ++ m)) p = _
          conv => lhs; unfold Lib.index
          rw [if_neg hb2, ih hl, if_neg hn, e]
    exact key l h
theorem index_nl (l X : List UInt8) (h : Lib.index l [10] < 0) : Lib.index (l ++ 10 :: X) [10] = l.length := by
  induction l with
  | nil => rfl
  | cons b l ih =>
    by_cases hb : ([10] : List UInt8).isPrefixOf (b :: l) = true
    · have e : Lib.index (b :: l) [10] = 0 := by unfold Lib.index; rw [if_pos hb]
      omega
    · have e : Lib.index (b :: l) [10] = if Lib.index l [10] == -1 then -1 else Lib.index l [10] + 1 := by conv => lhs; unfold Lib.index; rw [if_neg hb]
      have b1 := index_le l [10]
      have hl : Lib.index l [10] < 0 := by
        rw [e] at h; split at h
        · rename_i x; have := eq_of_beq x; omega
        · omega
      have hb2 : ¬ ([10] : List UInt8).isPrefixOf (b :: (l ++ 10 :: X)) = true := by
        intro hh; apply hb; simpa [List.isPrefixOf] using hh
      show Lib.index (b :: (l ++ 10 :: X)) [10] = _
      conv => lhs; unfold Lib.index
      rw [if_neg hb2, ih hl, if_neg (by intro x; have := eq_of_beq x; omega)]
      simp
theorem index_star (l X : List UInt8) (h : Lib.index l [42, 47] < 0) (hX : Lib.index X [42, 47] < 0) : Lib.index (l ++ 10 :: X) [42, 47] < 0 := by
  induction l with
  | nil =>
    have hb : ¬ ([42, 47] : List UInt8).isPrefixOf (10 :: X) = true := by simp [List.isPrefixOf]
    have b1 := index_le X [42, 47]
    show Lib.index (10 :: X) [42, 47] < 0
    unfold Lib.index
    rw [if_neg hb, if_pos (by have : Lib.index X [42, 47] = -1 := by omega
                              rw [this]; rfl)]
    omega
  | cons b l ih =>
    by_cases hb : ([42, 47] : List UInt8).isPrefixOf (b :: l) = true
    · have e : Lib.index (b :: l) [42, 47] = 0 := by unfold Lib.index; rw [if_pos hb]
      omega
    · have e : Lib.index (b :: l) [42, 47] = if Lib.index l [42, 47] == -1 then -1 else Lib.index l [42, 47] + 1 := by conv => lhs; unfold Lib.index; rw [if_neg hb]
      have b1 := index_le l [42, 47]
      have hl : Lib.index l [42, 47] < 0 := by
        rw [e] at h; split at h
        · rename_i x; have := eq_of_beq x; omega
        · omega
      have hb2 : ¬ ([42, 47] : List UInt8).isPrefixOf (b :: (l ++ 10 :: X)) = true := by
        intro hh; apply hb
        cases l with
        | nil => simp [List.isPrefixOf] at hh
        | cons c l => simpa [List.isPrefixOf] using hh
      have b2 := index_le (l ++ 10 :: X) [42, 47]
      have hi := ih hl
      show Lib.index (b :: (l ++ 10 :: X)) [42, 47] < 0
      unfold Lib.index
      rw [if_neg hb2, if_pos (by have : Lib.index (l ++ 10 :: X) [42, 47] = -1 := by omega
                                 rw [this]; rfl)]
      omega
theorem hp_nl {R X p : List UInt8} (hp : (10 : UInt8) ∉ p) : Lib.hasPrefix (R ++ 10 :: X) p = Lib.hasPrefix R p := by
  unfold Lib.hasPrefix
  rw [Bool.eq_iff_iff, List.isPrefixOf_iff_prefix, List.isPrefixOf_iff_prefix]
  constructor
  · intro h
    by_cases hl : p.length ≤ R.length
    · exact List.prefix_of_prefix_length_le h (List.prefix_append _ _) hl
    · exfalso
      apply hp
      obtain ⟨t, ht⟩ := h
      have h1 : (R ++ 10 :: X)[R.length]? = some 10 := by simp
      rw [← ht, List.getElem?_append_left (by omega)] at h1
      exact List.mem_of_getElem? h1
  · intro h; exact h.trans (List.prefix_append _ _)
theorem pfx_nl (p : Int → Bool) (h10 : p 10 = false) (R X : List UInt8) : pfx p (R ++ 10 :: X) = pfx p R := by
  induction R with
  | nil => simp [pfx]; exact h10
  | cons b l ih => simp only [List.cons_append, pfx, ih]
theorem hd_nl {R X : List UInt8} (h : R ≠ []) : hd (R ++ 10 :: X) = hd R := by
  cases R with
  | nil => exact absurd rfl h
  | cons b l => rfl
theorem note_nl {R X : List UInt8} : isNote (R ++ 10 :: X) = isNote R := by
  unfold isNote; rw [hp_nl (by decide), hp_nl (by decide)]
theorem word_nl (R X : List UInt8) : wordR (R ++ 10 :: X) = wordR R := by
  unfold wordR
  rw [pfx_nl isWb (by decide), List.take_append_of_le_length (pfx_le isWb R)]
theorem hexD_nl (R X : List UInt8) : hexD (R ++ 10 :: X) = hexD R := by
  unfold hexD
  rw [hp_nl (by decide)]
  split
  · rename_i h
    have hl := hp_len h
    rw [List.drop_append_of_le_length (by simpa using hl), pfx_nl isHx (by decide)]
  · rfl
theorem stop_le (l : List UInt8) (h0 : 0 < l.length) : (spanR l).stop ≤ l.length := by
  unfold spanR
  split
  · exact pfx_le isDig l
  · split
    · rename_i hx
      obtain ⟨a1, a2, a3⟩ := hexD_pos hx
      have hp := pfx_le isHx (l.drop 2)
      rw [List.length_drop] at hp
      show 2 + _ ≤ _; omega
    · exact h0
theorem span_nl {R X : List UInt8} (h : R ≠ []) : spanR (R ++ 10 :: X) = spanR R := by
  have hh : (R ++ 10 :: X).headD 0 = R.headD 0 := by cases R with
    | nil => exact absurd rfl h
    | cons b l => rfl
  unfold spanR
  rw [hh, hexD_nl, pfx_nl isDig (by decide)]
theorem num_nl {R X : List UInt8} (h : R ≠ []) : numberR (R ++ 10 :: X) = numberR R := by
  have hs := stop_le R (headD_len h)
  unfold numberR
  rw [span_nl h, List.take_append_of_le_length hs]
  have e : ((spanR R).stop < (R ++ 10 :: X).length ∧ isWb (((R ++ 10 :: X).getD (spanR R).stop 0).toNat : Nat) = true) ↔ ((spanR R).stop < R.length ∧ isWb ((R.getD (spanR R).stop 0).toNat : Nat) = true) := by
    by_cases hlt : (spanR R).stop < R.length
    · rw [getD_app hlt]
      simp [hlt]; omega
    · have e : (spanR R).stop = R.length := by omega
      rw [e]
      simp
      decide
  by_cases c : (spanR R).stop < R.length ∧ isWb ((R.getD (spanR R).stop 0).toNat : Nat) = true
  · rw [if_pos c, if_pos (e.2 c)]
  · rw [if_neg c, if_neg (fun x => c (e.1 x))]
theorem char_nl {R X : List UInt8} (h : R ≠ []) : charR (R ++ 10 :: X) = charR R := by
  match R with
  | a :: b :: c :: r => rfl
  | [] => exact absurd rfl h
  | [a, b] => simp [charR]
  | [a] =>
    cases X with
    | nil => rfl
    | cons x X => simp only [List.cons_append, List.nil_append, charR]; rw [if_neg]; intro ⟨_, h⟩; revert h; decide
theorem ops_nl : ∀ o ∈ opL, (10 : UInt8) ∉ o := by decide
theorem sign_nl (R X : List UInt8) : signR (R ++ 10 :: X) = signR R := by
  have e : opL.find? (fun o => Lib.hasPrefix (R ++ 10 :: X) o) = opL.find? (fun o => Lib.hasPrefix R o) := by
    have key : ∀ L : List (List UInt8), (∀ o ∈ L, (10 : UInt8) ∉ o) → L.find? (fun o => Lib.hasPrefix (R ++ 10 :: X) o) = L.find? (fun o => Lib.hasPrefix R o) := by
      intro L
      induction L with
      | nil => intro _; rfl
      | cons o L ih =>
        intro h
        simp only [List.find?_cons, hp_nl (h o (List.mem_cons_self ..))]
        rw [ih (fun x hx => h x (List.mem_cons_of_mem _ hx))]
    exact key opL ops_nl
  unfold signR
  rw [e]
theorem tok_nl {R X : List UInt8} (h : R ≠ []) : tokR (R ++ 10 :: X) = tokR R := by
  unfold tokR
  rw [hd_nl h, word_nl, num_nl h, char_nl h, sign_nl]
theorem comment_nl {R X : List UInt8} (h2 : 2 ≤ R.length) :
    (commentR R ≠ 0 → (R.getD 1 0 ≠ 42 → 0 ≤ Lib.index (R.drop 2) [10]) → commentR (R ++ 10 :: X) = commentR R) ∧
    (commentR R = 0 → Lib.index X [42, 47] < 0 → commentR (R ++ 10 :: X) = 0) ∧
    (R.getD 1 0 ≠ 42 → Lib.index (R.drop 2) [10] < 0 → commentR R = R.length ∧ commentR (R ++ 10 :: X) = R.length + 1) := by
  have hg : (R ++ 10 :: X).getD 1 0 = R.getD 1 0 := getD_app (by omega)
  have hdr : (R ++ 10 :: X).drop 2 = R.drop 2 ++ 10 :: X := List.drop_append_of_le_length h2
  refine ⟨fun h hl => ?_, fun h hX => ?_, fun h42 hl => ?_⟩
  · unfold commentR at h ⊢
    rw [hg, hdr]
    by_cases h42 : R.getD 1 0 = 42
    · rw [if_pos h42] at h ⊢
      rw [if_pos h42]
      by_cases hi : Lib.index (R.drop 2) [42, 47] < 0
      · rw [if_pos hi] at h; exact absurd rfl h
      · rw [index_app _ _ _ (by omega)]
    · rw [if_neg h42, if_neg h42, index_app _ _ _ (hl h42), if_neg (by have := hl h42; omega), if_neg (by have := hl h42; omega)]
  · unfold commentR at h ⊢
    rw [hg, hdr]
    by_cases h42 : R.getD 1 0 = 42
    · rw [if_pos h42] at h ⊢
      by_cases hi : Lib.index (R.drop 2) [42, 47] < 0
      · rw [if_pos (index_star _ _ hi hX)]
      · rw [if_neg hi] at h; omega
    · rw [if_neg h42] at h
      split at h <;> omega
  · unfold commentR
    rw [hg, hdr, if_neg h42, if_neg h42, if_pos hl, index_nl _ _ hl, if_neg (by omega)]
    simp; omega
/-- the text of both: the first one's tokens, then the second one's. -/
theorem lex_nl (X : List UInt8) (f : Nat) : ∀ (R : List UInt8) (a : Nat), R.length ≤ f →
    (∀ ts, lexG R a = .ok ts → lexG (R ++ 10 :: X) a = Res.pre ts (lexG X (a + R.length + 1))) ∧
    (Lib.index X [42, 47] < 0 → ∀ p e, lexG R a = .bad p e → lexG (R ++ 10 :: X) a = .bad p e) := by
  have base : ∀ a, lexG (10 :: X) a = lexG X (a + 1) := fun a => step_sp (by simp) (by rfl)
  induction f with
  | zero =>
    intro R a hl
    have : R = [] := List.eq_nil_of_length_eq_zero (by omega)
    subst this
    refine ⟨fun ts h => ?_, fun _ p e h => ?_⟩
    · rw [lexG_nil] at h; cases h
      rw [pre_nil]; exact base a
    · rw [lexG_nil] at h; cases h
  | succ f ih =>
    intro R a hl
    by_cases hR : R = []
    · subst hR
      refine ⟨fun ts h => ?_, fun _ p e h => ?_⟩
      · rw [lexG_nil] at h; cases h
        rw [pre_nil]; exact base a
      · rw [lexG_nil] at h; cases h
    · have hne : R ++ 10 :: X ≠ [] := by simp
      have hlen := headD_len hR
      cases hs : isSp (hd R) with
      | true =>
        have e1 := step_sp (k := a) hR hs
        have e2 := step_sp (R := R ++ 10 :: X) (k := a) hne (by rw [hd_nl hR]; exact hs)
        rw [List.drop_append_of_le_length (by omega)] at e2
        obtain ⟨i1, i2⟩ := ih (R.drop 1) (a + 1) (by simp; omega)
        rw [List.length_drop] at i1
        refine ⟨fun ts h => ?_, fun hX p e h => ?_⟩
        · rw [e1] at h; rw [e2, i1 ts h]; congr 2; omega
        · rw [e1] at h; rw [e2]; exact i2 hX p e h
      | false =>
        cases hn : isNote R with
        | true =>
          have h2 := note_len hn
          obtain ⟨c1, c2, c3⟩ := comment_nl (X := X) h2
          have hcl := comment_len R h2
          by_cases h0 : commentR R = 0
          · have e1 := step_note0 (k := a) hR hs hn h0
            refine ⟨fun ts h => ?_, fun hX p e h => ?_⟩
            · rw [e1] at h; cases h
            · rw [e1] at h; cases h
              exact step_note0 hne (by rw [hd_nl hR]; exact hs) (by rw [note_nl]; exact hn) (c2 h0 hX)
          · obtain ⟨n, hcn⟩ : ∃ n : Nat, commentR R = n := ⟨(commentR R).toNat, by omega⟩
            have e1 := step_note (k := a) hR hs hn n (by omega) hcn
            by_cases hun : R.getD 1 0 ≠ 42 ∧ Lib.index (R.drop 2) [10] < 0
            · obtain ⟨d1, d2⟩ := c3 hun.1 hun.2
              have e2 := step_note (R := R ++ 10 :: X) (k := a) hne (by rw [hd_nl hR]; exact hs) (by rw [note_nl]; exact hn) (R.length + 1) (by omega) (by rw [d2]; simp)
              have hnl : n = R.length := by omega
              subst hnl
              rw [List.drop_length, lexG_nil] at e1
              have hdrop : (R ++ 10 :: X).drop (R.length + 1) = X := by
                rw [List.drop_append]; simp
              rw [hdrop] at e2
              refine ⟨fun ts h => ?_, fun hX p e h => ?_⟩
              · rw [e1] at h; cases h; rw [pre_nil, e2]; rfl
              · rw [e1] at h; cases h
            · have hsame := c1 h0 (fun h42 => by
                by_cases hi : Lib.index (R.drop 2) [10] < 0
                · exact absurd ⟨h42, hi⟩ hun
                · omega)
              have e2 := step_note (R := R ++ 10 :: X) (k := a) hne (by rw [hd_nl hR]; exact hs) (by rw [note_nl]; exact hn) n (by omega) (by rw [hsame]; exact hcn)
              rw [List.drop_append_of_le_length (by omega)] at e2
              obtain ⟨i1, i2⟩ := ih (R.drop n) (a + n) (by simp; omega)
              rw [List.length_drop] at i1
              refine ⟨fun ts h => ?_, fun hX p e h => ?_⟩
              · rw [e1] at h; rw [e2, i1 ts h]; congr 2; omega
              · rw [e1] at h; rw [e2]; exact i2 hX p e h
        | false =>
          by_cases he : (tokR R).err = 0
          · have e1 := step_tok (k := a) hR hs hn he
            have e2 := step_tok (R := R ++ 10 :: X) (k := a) hne (by rw [hd_nl hR]; exact hs) (by rw [note_nl]; exact hn) (by rw [tok_nl hR]; exact he)
            rw [tok_nl hR] at e2
            obtain ⟨l1, l2⟩ := tok_len R hlen he
            rw [List.drop_append_of_le_length l2, List.take_append_of_le_length l2] at e2
            obtain ⟨i1, i2⟩ := ih (R.drop (tokR R).len) (a + (tokR R).len) (by simp; omega)
            rw [List.length_drop] at i1
            refine ⟨fun ts h => ?_, fun hX p e h => ?_⟩
            · rw [e1] at h
              cases hr : lexG (R.drop (tokR R).len) (a + (tokR R).len) with
              | bad p e => rw [hr] at h; cases h
              | ok tl =>
                rw [hr] at h; cases h
                rw [e2, i1 tl hr]
                have : a + (tokR R).len + (R.length - (tokR R).len) + 1 = a + R.length + 1 := by omega
                rw [this]
                cases lexG X (a + R.length + 1) <;> rfl
            · rw [e1] at h
              cases hr : lexG (R.drop (tokR R).len) (a + (tokR R).len) with
              | ok tl => rw [hr] at h; cases h
              | bad p' e' => rw [hr] at h; cases h; rw [e2, i2 hX _ _ hr]; rfl
          · have e1 := step_bad (k := a) hR hs hn he
            have e2 := step_bad (R := R ++ 10 :: X) (k := a) hne (by rw [hd_nl hR]; exact hs) (by rw [note_nl]; exact hn) (by rw [tok_nl hR]; exact he)
            rw [tok_nl hR] at e2
            refine ⟨fun ts h => ?_, fun hX p e h => ?_⟩
            · rw [e1] at h; cases h
            · rw [e1] at h; cases h; exact e2
/-- where a text is lexed from turns nothing but the places. -/
def T4.shift (d : Nat) (t : T4) : T4 := { t with pos := t.pos + d }
def Res.shift (d : Nat) : Res → Res
  | .ok l => .ok (l.map (T4.shift d))
  | .bad p e => .bad (p + d) e
theorem lex_shift (f : Nat) : ∀ (R : List UInt8) (a d : Nat), R.length ≤ f → lexG R (a + d) = (lexG R a).shift d := by
  induction f with
  | zero =>
    intro R a d hl
    have : R = [] := List.eq_nil_of_length_eq_zero (by omega)
    subst this; rfl
  | succ f ih =>
    intro R a d hl
    by_cases hR : R = []
    · subst hR; rfl
    · rw [lexG_eq R _ hR, lexG_eq R a hR]
      cases hs : stepR R with
      | skip n =>
        have := step_skip_le hR hs
        simp only
        rw [show a + d + n = a + n + d by omega]
        exact ih _ _ _ (by simp; omega)
      | bad e => rfl
      | tok t =>
        obtain ⟨_, _, he, ht⟩ := step_tok_is hs
        have htl := tok_len R (headD_len hR) he
        rw [← ht] at htl
        simp only
        rw [show a + d + t.len = a + t.len + d by omega, ih _ _ _ (by simp; omega)]
        cases lexG (R.drop t.len) (a + t.len) <;> rfl
end Go.Proofs.YthbhlmkgbinegaaDoor
