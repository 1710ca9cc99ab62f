/- LexRises: the walk. -/
import Derived.Test.YthbhlmkgbinegaaDoorP3
import Derived.WalkSmall
namespace Go.Proofs.YthbhlmkgbinegaaDoor
open Go.RowKit
theorem lex_bad_ne (f : Nat) : ∀ (R : List UInt8) (k p : Nat) (e : Int), R.length ≤ f → lexG R k = .bad p e → e ≠ 0 := by
  induction f with
  | zero =>
    intro R k p e hl h
    have : R = [] := List.eq_nil_of_length_eq_zero (by omega)
    subst this; rw [lexG_nil] at h; cases h
  | succ f ih =>
    intro R k p e hl h
    by_cases hR : R = []
    · subst hR; rw [lexG_nil] at h; cases h
    · rw [lexG_eq R k hR] at h
      cases hs : stepR R with
      | skip n =>
        rw [hs] at h
        obtain ⟨h1, h2⟩ := step_skip_le hR hs
        exact ih (R.drop n) (k + n) p e (by simp; omega) h
      | tok t =>
        rw [hs] at h
        obtain ⟨_, _, he, ht⟩ := step_tok_is hs
        have htl := tok_len R (headD_len hR) he
        rw [← ht] at htl
        cases hr : lexG (R.drop t.len) (k + t.len) with
        | ok tl => simp only [hr, Res.cons] at h; cases h
        | bad q e' =>
          simp only [hr, Res.cons] at h
          cases h
          exact ih (R.drop t.len) (k + t.len) p e (by simp; omega) hr
      | bad e' =>
        rw [hs] at h; cases h
        unfold stepR at hs
        split at hs
        · cases hs
        · split at hs
          · split at hs
            · cases hs; omega
            · cases hs
          · split at hs
            · cases hs
            · rename_i he; cases hs; exact he
theorem tokens_bad_facts {l : List UInt8} {p : Nat} {e : Int} (h : tokensR l = .bad p e) : p ≤ l.length ∧ e ≠ 0 := by
  unfold tokensR at h
  split at h
  · cases h; exact ⟨by omega, by omega⟩
  · have := lex_bad _ l 0 p e (Nat.le_refl _) h
    exact ⟨by omega, lex_bad_ne _ l 0 p e (Nat.le_refl _) h⟩
theorem tokens_ok_facts {l : List UInt8} {ts : List T4} (h : tokensR l = .ok ts) : l.length ≤ 20000 ∧ lexG l 0 = .ok ts := by
  unfold tokensR at h
  split at h
  · cases h
  · exact ⟨by omega, h⟩
/-- a slice of tokens, and where its cells lie. -/
def Row (w : World) (v : Value) (l : List T4) : Prop :=
  ∃ a cap, v = .slice a l.length cap ∧ (l ≠ [] → ∃ g, a = some ⟨g, 0, none⟩ ∧ g < w.heap.size ∧ ∀ j, j < l.length * 4 → w.cell? ⟨g, j, none⟩ = (cellsOf l)[j]?)
theorem Row.below {w w' : World} {v : Value} {l : List T4} (h : Row w v l) (b : Below w.heap.size w w') : Row w' v l := by
  obtain ⟨a, cap, hv, hc⟩ := h
  refine ⟨a, cap, hv, fun hl => ?_⟩
  obtain ⟨g, ha, hg, hcell⟩ := hc hl
  exact ⟨g, ha, Nat.lt_of_lt_of_le hg b.size, fun j hj => by rw [b.cell (p := ⟨g, j, none⟩) hg]; exact hcell j hj⟩
theorem row_of {w : World} {base : Nat} {v : Value} {l : List T4} (h : w.ownsRow base 34 4 v l.length (cellsOf l)) : Row w v l := by
  obtain ⟨h1, h2⟩ := h
  rcases h2 with ⟨hv, h2⟩ | ⟨g, cap, cur, hv, hg, hh, h3, h4, h5, h6⟩
  · have := List.eq_nil_of_length_eq_zero h2
    subst this
    exact ⟨none, 0, hv, fun hl => absurd rfl hl⟩
  · refine ⟨_, cap, hv, fun _ => ⟨g, rfl, ?_, fun j hj => ?_⟩⟩
    · rcases Nat.lt_or_ge g w.heap.size with h | h
      · exact h
      · rw [Array.getElem?_eq_none h] at hh; cases hh
    · rw [cell_of_row w g j _ _ _ hh, ← h6, List.getElem?_take_of_lt (by omega)]
      simp
theorem tokens_row (s : ByteArray) (l : List T4) (w : World) (hv : Vars w) (h : tokensR s.data.toList = .ok l) :
    Calls Tryd.prog 12 #[.string s] w fun e w' => ∃ v, e = .returned (.tuple #[v, .int .i64 0, .int .i64 0]) ∧ Row w' v l ∧ Below w.heap.size w w' :=
  (tokens_any s w hv).mono fun e w' hp => by
    rw [h] at hp
    obtain ⟨hB, v, he, ho⟩ := hp
    exact ⟨v, he, row_of ho, hB⟩
theorem cellsOf_get (l : List T4) (k : Nat) (hk : k < l.length) : (cellsOf l)[k * 4]? = some (.int .i64 l[k].kind) ∧ (cellsOf l)[k * 4 + 1]? = some (.int .i64 l[k].pos) ∧ (cellsOf l)[k * 4 + 2]? = some (.string ⟨l[k].text.toArray⟩) ∧ (cellsOf l)[k * 4 + 3]? = some (.int .i64 l[k].val) := by
  induction l generalizing k with
  | nil => simp at hk
  | cons t l ih =>
    cases k with
    | zero => simp [cellsOf, cells4]
    | succ k =>
      have := ih k (by simpa using hk)
      have e : cellsOf (t :: l) = cells4 t ++ cellsOf l := by simp [cellsOf]
      have hl : (cells4 t).length = 4 := rfl
      rw [e]
      rw [List.getElem?_append_right (by rw [hl]; omega), List.getElem?_append_right (by rw [hl]; omega), List.getElem?_append_right (by rw [hl]; omega), List.getElem?_append_right (by rw [hl]; omega), hl]
      rw [show (k + 1) * 4 - 4 = k * 4 by omega, show (k + 1) * 4 + 1 - 4 = k * 4 + 1 by omega, show (k + 1) * 4 + 2 - 4 = k * 4 + 2 by omega, show (k + 1) * 4 + 3 - 4 = k * 4 + 3 by omega]
      exact this
set_option maxRecDepth 100000 in
set_option maxHeartbeats 4000000 in
theorem rises_bad (s : ByteArray) (w : World) (hv : Vars w) (p : Nat) (er : Int) (h : tokensR s.data.toList = .bad p er) :
    Calls Tryd.prog 6 #[.string s] w fun e w' => e = .returned (.bool true) ∧ Below w.heap.size w w' := by
  obtain ⟨hp, hne⟩ := tokens_bad_facts h
  have hp' : p ≤ s.size := by simpa using hp
  have HV := Lib.hid hv
  have HT := Lib.hid h
  clear hv h hp
  go_enter Tryd.func6, Tryd.ntmps6
  go_wp2_with fail
  refine (shown_any _ HV.out).mono ?_
  rintro e w1 ⟨rfl, hb1⟩
  have HB1 := Lib.hid hb1
  have HV1 := Lib.hid (HV.out.below hb1 HV.out.size)
  clear hb1
  go_wp2_with fail
  refine (tokens_bad _ p er _ HV1.out HT.out).mono ?_
  rintro e w2 ⟨rfl, hb2⟩
  have HB2 := Lib.hid hb2
  clear hb2
  go_wp2_with fail
  go_ret
  exact ⟨rfl, HB1.out.trans (HB2.out.mono HB1.out.size)⟩
theorem rises_count (l : List UInt8) (ts : List T4) : ∀ last, last ≤ l.length → Rises l last ts → last + ts.length ≤ l.length := by
  induction ts with
  | nil => intro last h _; simpa using h
  | cons t ts ih =>
    intro last h hr
    obtain ⟨r1, r2, r3, _, _, r6⟩ := hr
    have := ih _ r2 r6
    have := List.length_pos_iff.2 r3
    simp; omega
set_option maxRecDepth 100000 in
set_option maxHeartbeats 4000000 in
theorem rises_ok (s : ByteArray) (w : World) (hv : Vars w) (ts : List T4) (h : tokensR s.data.toList = .ok ts) :
    Calls Tryd.prog 6 #[.string s] w fun e w' => e = .returned (.bool true) ∧ Below w.heap.size w w' := by
  obtain ⟨hsz, hlex⟩ := tokens_ok_facts h
  have HR := Lib.hid (rises_of s.data.toList ts 0 (by omega) (by simpa using hlex))
  have hs : s.size ≤ 20000 := by simpa using hsz
  have hcount : ts.length ≤ 20000 := by have := rises_count _ ts 0 (by omega) HR.out; omega
  have HV := Lib.hid hv
  have HT := Lib.hid h
  clear hv h hlex hsz
  go_enter Tryd.func6, Tryd.ntmps6
  go_wp2_with fail
  refine (shown_any _ HV.out).mono ?_
  rintro e w1 ⟨rfl, hb1⟩
  have HB1 := Lib.hid hb1
  have HV1 := Lib.hid (HV.out.below hb1 HV.out.size)
  clear hb1
  go_wp2_with fail
  refine (tokens_row _ ts _ HV1.out HT.out).mono ?_
  rintro e w2 ⟨v, rfl, hrow, hb2⟩
  have HB2 := Lib.hid (HB1.out.trans (hb2.mono HB1.out.size))
  have HV2 := Lib.hid (HV1.out.below hb2 HV1.out.size)
  have HRow := Lib.hid hrow
  clear hb2 hrow
  obtain ⟨a, cap, rfl, hcells⟩ := HRow.out
  have HC := Lib.hid hcells
  clear hcells
  go_wp2_with fail
  go_loopw [7, 8] (fun la i wr => ∃ (k last : Nat), k ≤ ts.length ∧ i = .int .i64 k ∧ la = .int .i64 last ∧ Hid (Rises s.data.toList last (ts.drop k)) ∧ Hid (Below w2.heap.size w2 wr))
    (fun _ i _ => ts.length - (intOf i).toNat)
  case atStart => exact ⟨0, 0, Nat.zero_le _, rfl, rfl, HR.out, Below.refl _ _⟩
  case round =>
    obtain ⟨k, last, hk, rfl, rfl, hR, hB⟩ := hrel
    by_cases hlt : k < ts.length
    · obtain ⟨g, rfl, hg, hcell⟩ := HC.out (by intro e; rw [e] at hlt; simp at hlt)
      obtain ⟨_, q1, q2, _⟩ := cellsOf_get ts k hlt
      have hd : ts.drop k = ts[k] :: ts.drop (k + 1) := List.drop_eq_getElem_cons hlt
      have hR2 := hR.out
      rw [hd] at hR2
      obtain ⟨r1, r2, r3, r4, r5, r6⟩ := hR2
      have r7 : lexG ((s.data.toList.take ts[k].pos).drop last) 0 = .ok [] := r5
      generalize ts[k].pos = pos at *
      generalize ts[k].text = tl at *
      have e1 : (s.extract pos (pos + tl.length)) = ⟨tl.toArray⟩ := by
        apply ByteArray.ext; apply Array.ext'; rw [ext_mid]; exact r4
      obtain ⟨tx, htx⟩ : ∃ tx : ByteArray, tx = ⟨tl.toArray⟩ := ⟨_, rfl⟩
      have htxs : tl.length = tx.size := by rw [htx]; rfl
      rw [← htx] at q2 e1
      rw [htxs] at r2 e1 r6
      have hne : tx.toList.isEmpty = false := bytes_ne (by rw [← htxs]; intro e; exact r3 (List.eq_nil_of_length_eq_zero e))
      have r2' : pos + tx.size ≤ s.size := by simpa using r2
      have g1 : wr.cell? ⟨g, k * 4 + 1, none⟩ = some (.int .i64 pos) := by
        rw [hB.out.cell (p := ⟨g, k * 4 + 1, none⟩) hg, hcell _ (by omega)]; exact q1
      have g2 : wr.cell? ⟨g, k * 4 + 2, none⟩ = some (.string tx) := by
        rw [hB.out.cell (p := ⟨g, k * 4 + 2, none⟩) hg, hcell _ (by omega)]; exact q2
      have R6 := Lib.hid r6
      have R7 := Lib.hid r7
      have HTX := Lib.hid htx
      clear r2 r3 r4 r5 r6 r7 hd hcell q1 q2 htx htxs hR
      have E1 := Lib.hid e1
      clear e1
      have hlt' : (k : Int) < ts.length := by omega
      go_wp2_with fail
      go_quiet (fail)
      go_wp2_with fail
      have b1 : decide (pos < last) = false := by simp; omega
      have b2 : decide ((s.size : Int) < (pos : Int) + (tx.size : Int)) = false := by simp; omega
      have b3 : decide (s.size < pos + tx.size) = false := by simp; omega
      have hq : ((s.extract pos (pos + tx.size)).toList == tx.toList) = true := by rw [E1.out]; simp
      have hz : (s.extract pos (pos + tx.size)).size = tx.size := by rw [E1.out]
      go_quiet (fail)
      go_wp2_with fail
      have hT : tokensR (s.extract last pos).data.toList = .ok [] := by
        rw [ext_mid]; unfold tokensR; rw [if_neg (by simp; omega)]; exact R7.out
      refine (tokens_row _ [] _ (HV2.out.below (below_drewN hB.out _) HV2.out.size) hT).mono ?_
      rintro e w3 ⟨v3, rfl, ⟨a3, cap3, rfl, _⟩, hb3⟩
      have HB3 := Lib.hid ((below_drewN hB.out _).trans (hb3.mono (below_drewN hB.out _).size))
      clear hb3 hT b1 b2 b3 hq hz g1 g2
      go_wp2_with fail
      refine ⟨⟨k + 1, pos + tx.size, by omega, by go_num, by go_num, R6.out, HB3.out⟩, by simp [intOf]; omega⟩
    · go_wp2_with fail
      go_ret
      exact ⟨rfl, HB2.out.trans (hB.out.mono HB2.out.size)⟩
theorem rises_walk (s : ByteArray) (w : World) (hv : Vars w) : Calls Tryd.prog 6 #[.string s] w fun e w' => e = .returned (.bool true) ∧ Below w.heap.size w w' := by
  cases h : tokensR s.data.toList with
  | ok ts => exact rises_ok s w hv ts h
  | bad p e => exact rises_bad s w hv p e h
end Go.Proofs.YthbhlmkgbinegaaDoor
