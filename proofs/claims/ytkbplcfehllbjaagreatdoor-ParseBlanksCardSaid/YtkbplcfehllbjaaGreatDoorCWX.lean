/- Plain: the text of tokens, with one blank between two, is read as these tokens. -/
import Derived.Test.YtkbplcfehllbjaaGreatDoorMkTop
import Derived.Test.YtkbplcfehllbjaaGreatDoorCWT
namespace Go.Proofs.YtkbplcfehllbjaaGreatDoor
theorem hp_b {R X p : List UInt8} (hp : (32 : UInt8) ∉ p) : Lib.hasPrefix (R ++ 32 :: X) p = Lib.hasPrefix R p := by
  unfold Lib.hasPrefix
  rw [Bool.eq_iff_iff, List.isPrefixOf_iff_prefix, List.isPrefixOf_iff_prefix]
  constructor
  · intro h
    by_cases hl : p.length ≤ R.length
    · exact List.prefix_of_prefix_length_le h (List.prefix_append _ _) hl
    · exfalso
      apply hp
      obtain ⟨t, ht⟩ := h
      have h1 : (R ++ 32 :: X)[R.length]? = some 32 := by simp
      rw [← ht, List.getElem?_append_left (by omega)] at h1
      exact List.mem_of_getElem? h1
  · intro h; exact h.trans (List.prefix_append _ _)
theorem pfx_b (p : Int → Bool) (h32 : p 32 = false) (R X : List UInt8) : pfx p (R ++ 32 :: X) = pfx p R := by
  induction R with
  | nil => simp [pfx]; exact h32
  | cons b l ih => simp only [List.cons_append, pfx, ih]
theorem hd_b {R X : List UInt8} (h : R ≠ []) : hd (R ++ 32 :: X) = hd R := by
  cases R with
  | nil => exact absurd rfl h
  | cons b l => rfl
theorem note_b {R X : List UInt8} : isNote (R ++ 32 :: X) = isNote R := by
  unfold isNote; rw [hp_b (by decide), hp_b (by decide)]
theorem word_b (R X : List UInt8) : wordR (R ++ 32 :: X) = wordR R := by
  unfold wordR
  rw [pfx_b isWb (by decide), List.take_append_of_le_length (pfx_le isWb R)]
theorem hexD_b (R X : List UInt8) : hexD (R ++ 32 :: X) = hexD R := by
  unfold hexD
  rw [hp_b (by decide)]
  split
  · rename_i h
    have hl := hp_len h
    rw [List.drop_append_of_le_length (by simpa using hl), pfx_b isHx (by decide)]
  · rfl
theorem span_b {R X : List UInt8} (h : R ≠ []) : spanR (R ++ 32 :: X) = spanR R := by
  have hh : (R ++ 32 :: X).headD 0 = R.headD 0 := by cases R with
    | nil => exact absurd rfl h
    | cons b l => rfl
  unfold spanR
  rw [hh, hexD_b, pfx_b isDig (by decide)]
theorem num_b {R X : List UInt8} (h : R ≠ []) : numberR (R ++ 32 :: X) = numberR R := by
  have hs := stop_le R (headD_len h)
  unfold numberR
  rw [span_b h, List.take_append_of_le_length hs]
  have e : ((spanR R).stop < (R ++ 32 :: X).length ∧ isWb (((R ++ 32 :: X).getD (spanR R).stop 0).toNat : Nat) = true) ↔ ((spanR R).stop < R.length ∧ isWb ((R.getD (spanR R).stop 0).toNat : Nat) = true) := by
    by_cases hlt : (spanR R).stop < R.length
    · rw [getD_app hlt]
      simp [hlt]; omega
    · have e : (spanR R).stop = R.length := by omega
      rw [e]
      simp
      decide
  by_cases c : (spanR R).stop < R.length ∧ isWb ((R.getD (spanR R).stop 0).toNat : Nat) = true
  · rw [if_pos c, if_pos (e.2 c)]
  · rw [if_neg c, if_neg (fun x => c (e.1 x))]
theorem ops_b : ∀ o ∈ opL, (32 : UInt8) ∉ o := by decide
theorem sign_b (R X : List UInt8) : signR (R ++ 32 :: X) = signR R := by
  have e : opL.find? (fun o => Lib.hasPrefix (R ++ 32 :: X) o) = opL.find? (fun o => Lib.hasPrefix R o) := by
    have key : ∀ L : List (List UInt8), (∀ o ∈ L, (32 : UInt8) ∉ o) → L.find? (fun o => Lib.hasPrefix (R ++ 32 :: X) o) = L.find? (fun o => Lib.hasPrefix R o) := by
      intro L
      induction L with
      | nil => intro _; rfl
      | cons o L ih =>
        intro h
        simp only [List.find?_cons, hp_b (h o (List.mem_cons_self ..))]
        rw [ih (fun x hx => h x (List.mem_cons_of_mem _ hx))]
    exact key opL ops_b
  unfold signR
  rw [e]
theorem char_b {R X : List UInt8} (he : (charR R).err = 0) : charR (R ++ 32 :: X) = charR R := by
  match R with
  | a :: b :: c :: r => rfl
  | [] => simp [charR, Tk.bad] at he
  | [a, b] => simp [charR, Tk.bad] at he
  | [a] => simp [charR, Tk.bad] at he
theorem tok_b {R X : List UInt8} (h : R ≠ []) (he : (tokR R).err = 0) : tokR (R ++ 32 :: X) = tokR R := by
  unfold tokR at he ⊢
  rw [hd_b h, word_b, num_b h, sign_b]
  split
  · rfl
  · rename_i c; rw [if_neg c] at he
    split
    · rfl
    · rename_i d; rw [if_neg d] at he
      split
      · rename_i f; rw [if_pos f] at he; exact char_b he
      · rfl
/-- a token whose text alone is it. -/
def Solo (t : T4) : Prop := t.text ≠ [] ∧ stepR t.text = .tok ⟨t.kind, t.text.length, t.val, 0⟩
theorem step_b {t : T4} (h : Solo t) (X : List UInt8) : stepR (t.text ++ 32 :: X) = .tok ⟨t.kind, t.text.length, t.val, 0⟩ := by
  obtain ⟨h0, h1⟩ := h
  obtain ⟨hs, hn, he, ht⟩ := step_tok_is h1
  unfold stepR
  rw [hd_b h0, hs, note_b, hn, tok_b h0 he, he, ht]
  simp
theorem solo_all (l : List UInt8) (ts : List T4) : ∀ k, lexG (l.drop k) k = .ok ts → ∀ t ∈ ts, Solo t := by
  induction ts with
  | nil => intro k h t ht; cases ht
  | cons t0 ts ih =>
    intro k h t ht
    obtain ⟨m, hm, hc⟩ := lex_ok _ (l.drop k) k _ (Nat.le_refl _) h
    rcases hc with ⟨e, _⟩ | ⟨tk, tl, e1, e2, e3, e4⟩
    · cases e
    · cases e3
      rcases List.mem_cons.1 ht with rfl | ht
      · have hst := step_alone e2 e1
        obtain ⟨_, _, he, htk⟩ := step_tok_is e1
        have htl := tok_len _ (headD_len e2) he
        rw [← htk] at htl he
        refine ⟨?_, ?_⟩
        · intro e
          have := congrArg List.length e
          rw [List.length_take, List.length_nil] at this
          omega
        · show stepR (List.take tk.len _) = _
          rw [hst]
          congr 1
          have e5 : (List.take tk.len (List.drop m (List.drop k l))).length = tk.len := by rw [List.length_take]; omega
          cases tk
          simp only at he e5 ⊢
          rw [he, e5]
      · rw [List.drop_drop] at e4
        exact ih _ e4 t ht
def place : Nat → List T4 → List T4
  | _, [] => []
  | a, t :: r => ⟨t.kind, a, t.text, t.val⟩ :: place (a + t.text.length + 1) r
theorem place_len : ∀ (ts : List T4) (a : Nat), (place a ts).length = ts.length
  | [], _ => rfl
  | t :: r, a => by simp [place, place_len r]
theorem lex_txt : ∀ (r : List T4) (t : T4) (a : Nat), Solo t → (∀ u ∈ r, Solo u) → lexG (t.text ++ txtTail r) a = .ok (place a (t :: r))
  | [], t, a, h, _ => by
    have e : t.text ++ txtTail [] = t.text := by simp [txtTail]
    rw [e, lexG_eq _ _ h.1, h.2]
    simp only [List.drop_length, lexG_nil, List.take_length]
    rfl
  | u :: r, t, a, h, hr => by
    have e : txtTail (u :: r) = 32 :: (u.text ++ txtTail r) := by simp [txtTail]
    have ih := lex_txt r u (a + t.text.length + 1) (hr u (List.mem_cons_self ..)) (fun x hx => hr x (List.mem_cons_of_mem _ hx))
    rw [e, lexG_eq _ _ (by simp), step_b h]
    simp only [List.drop_left', List.take_left']
    rw [step_sp (by simp) (by rfl)]
    show Res.cons _ (lexG (u.text ++ txtTail r) _) = _
    rw [ih]
    rfl
theorem txt_cons (t : T4) (r : List T4) : txt (t :: r) = t.text ++ txtTail r := by simp [txt, txtTail]
theorem txt_len (l : List UInt8) (ts : List T4) : ∀ last, last ≤ l.length → Rises l last ts → last + (txtTail ts).length ≤ l.length + ts.length := by
  induction ts with
  | nil => intro last h _; simpa [txtTail] using h
  | cons t ts ih =>
    intro last h hr
    obtain ⟨r1, r2, r3, _, _, r6⟩ := hr
    have := ih _ r2 r6
    have e : (txtTail (t :: ts)).length = t.text.length + 1 + (txtTail ts).length := by simp [txtTail]; omega
    rw [e]
    simp; omega
/-- The text of what was read is read as the same tokens. -/
theorem back_ok {l : List UInt8} {ts : List T4} (h : tokensR l = .ok ts) (ht : (txt ts).length ≤ 20000) : tokensR (txt ts) = .ok (place 0 ts) := by
  obtain ⟨hsz, hlex⟩ := tokens_ok_facts h
  have hs := solo_all l ts 0 (by simpa using hlex)
  unfold tokensR
  rw [if_neg (by omega)]
  cases ts with
  | nil => rfl
  | cons t r =>
    rw [txt_cons]
    exact lex_txt r t 0 (hs t (List.mem_cons_self ..)) (fun u hu => hs u (List.mem_cons_of_mem _ hu))
theorem txt_bound {l : List UInt8} {ts : List T4} (h : tokensR l = .ok ts) : (txt ts).length ≤ 40000 ∧ ts.length ≤ 20000 := by
  obtain ⟨hsz, hlex⟩ := tokens_ok_facts h
  have HR := rises_of l ts 0 (by omega) (by simpa using hlex)
  have h1 := rises_count _ ts 0 (by omega) HR
  have h2 := txt_len _ ts 0 (by omega) HR
  have h3 : (txt ts).length ≤ (txtTail ts).length := by unfold txt; simp
  omega
end Go.Proofs.YtkbplcfehllbjaaGreatDoor
