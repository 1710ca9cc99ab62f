/- Merged: Q49, R1, R2, R3. -/
import Derived.Test.YtkbplcfehllbjaaGreatDoorMk18
/- Parse. -/
namespace Go.Proofs.YtkbplcfehllbjaaGreatDoor
open Go.RowKit
open Go.ChangeMaps
attribute [local go_sem ↓] Go.wp_at_zero Go.wp_at_succ
theorem stepR_skip {l : List UInt8} {k : Nat} (h : stepR l = .skip k) : 1 ≤ k := by
  unfold stepR at h
  split at h
  · cases h; omega
  · split at h
    · rename_i hn
      split at h
      · cases h
      · rename_i hc
        have := comment_len _ (note_len hn)
        cases h; omega
    · split at h <;> cases h
theorem stepR_tok {l : List UInt8} {t : Tk} (h : stepR l = .tok t) (h0 : 0 < l.length) : 1 ≤ t.len := by
  unfold stepR at h
  split at h
  · cases h
  · split at h
    · split at h <;> cases h
    · split at h
      · rename_i he; cases h; exact (tok_len _ h0 he).1
      · cases h
theorem stepR_bad {l : List UInt8} {e : Int} (h : stepR l = .bad e) : e ≠ 0 := by
  unfold stepR at h
  split at h
  · cases h
  · split at h
    · split at h
      · cases h; decide
      · cases h
    · split at h
      · cases h
      · rename_i he; cases h; exact he
theorem lexF_len (f : Nat) : ∀ (l : List UInt8) (a : Nat), l.length ≤ f → (∀ ts, lexF f l a = .ok ts → ts.length ≤ l.length) ∧ ∀ p e, lexF f l a = .bad p e → e ≠ 0 := by
  induction f with
  | zero => intro l a hl; refine ⟨fun ts h => ?_, fun p e h => ?_⟩ <;> cases h; simp
  | succ f ih =>
    intro l a hl
    by_cases hn : l = []
    · subst hn; refine ⟨fun ts h => ?_, fun p e h => ?_⟩ <;> cases h; simp
    · have h0 : 0 < l.length := List.length_pos_iff.2 hn
      simp only [lexF, if_neg hn]
      cases hs : stepR l with
      | skip k =>
        have hk := stepR_skip hs
        obtain ⟨h1, h2⟩ := ih (l.drop k) (a + k) (by simp; omega)
        refine ⟨fun ts h => ?_, h2⟩
        have := h1 ts h
        simp at this; omega
      | tok t =>
        have hk := stepR_tok hs h0
        obtain ⟨h1, h2⟩ := ih (l.drop t.len) (a + t.len) (by simp; omega)
        simp only
        cases hr : lexF f (l.drop t.len) (a + t.len) with
        | ok r =>
          refine ⟨fun ts h => ?_, fun p e h => nomatch h⟩
          cases h
          have := h1 r hr
          simp at this ⊢; omega
        | bad p e => exact ⟨fun ts h => (nomatch h), fun p e h => by cases h; exact h2 _ _ hr⟩
      | bad e => exact ⟨fun ts h => (nomatch h), fun p e h => by cases h; exact stepR_bad hs⟩
theorem tokensR_len {l : List UInt8} {ts : List T4} (h : tokensR l = .ok ts) : l.length ≤ 20000 ∧ ts.length ≤ l.length := by
  unfold tokensR at h
  split at h
  · cases h
  · exact ⟨by omega, (lexF_len _ l 0 (Nat.le_refl _)).1 ts h⟩
theorem tokensR_bad {l : List UInt8} {p : Nat} {e : Int} (h : tokensR l = .bad p e) : e ≠ 0 := by
  unfold tokensR at h
  split at h
  · cases h; decide
  · exact (lexF_len _ l 0 (Nat.le_refl _)).2 p e h
theorem below_gr {w w' : World} (h : Below w.heap.size w w') : w.grownBy w' none := ⟨h.os, h.tape, h.output, h.size, fun k hk _ => h.block k hk⟩
def finP : PR Nd → PR Nd
  | .ok n rest => if 250 < ndH n then .err 0 4 else .ok n rest
  | .err p e => .err p e
def parseP (s : List UInt8) : PR Nd :=
  match tokensR s with
  | .bad p e => .err p e
  | .ok l => finP (unitP (l ++ [⟨0, s.length, [], 0⟩]))
def zeroN : Nd := .mk 0 [] 0 (.mk 0 0 [] []) []
theorem cellsOf_tks (l : List T4) : cellsOf l = tksC l := rfl
theorem tokens_anyQ (s : ByteArray) (w : World) (hv : Vars w) : Calls Tryz.prog 14 #[.string s] w (TokPost w (tokensR s.data.toList)) := by
  by_cases h : 20000 < s.size
  · exact tokens_long s w h
  · have : tokensR s.data.toList = lexG s.data.toList 0 := by unfold tokensR; rw [if_neg (by simpa using h)]
    rw [this]
    exact tokens_short s w (by omega) hv
theorem parse_results {t : Array Value} {W : World} {L : Nat} {v0 v1 v2 v3 v4 v5 v6 v7 p er : Value} (hA : W.heap[L]? = some (.cells #[v0, v1, v2, v3, v4, v5, v6, v7] 28 (0, 0))) (h2 : t[2]?.getD undef = .pointer (some ⟨L, 0, none⟩)) (h3 : t[3]?.getD undef = p) (h4 : t[4]?.getD undef = er) :
    (results Tryz.f10 t).run Tryz.prog W = .ok (.tuple #[.agg #[v0, v1, v2, v3, v4, v5, v6, v7], p, er]) W := by
  obtain ⟨⟨q0, q1, q2, q3, q4, q5, q6, q7⟩, _⟩ := cells8_of _ L _ _ _ _ _ _ _ _ _ hA
  simp [results, Tryz.results10, go_sem, h2, h3, h4, q0, q1, q2, q3, q4, q5, q6, q7]
/-- In one form, whether it went well or not. -/
theorem unitRes_gen {r : PR Nd} {w w' : World} {e : Ending} (h : unitRes r w e w') : ∃ (n : Nd) (oa : Option Addr) (on oc : Nat) (ka : Option Addr) (kn kc : Nat) (p : Nat) (er : Int), e = .returned (.tuple #[ndV n (.slice oa on oc) (.slice ka kn kc), .int .i64 p, .int .i64 er]) ∧ w.grownBy w' none ∧
    RepOf w' (fun g => w.heap.size ≤ g) (.slice oa on oc) n.typ.of ∧ RepK w' (fun g => w.heap.size ≤ g) (.slice ka kn kc) n.kids ∧ ((∃ rest, r = .ok n rest ∧ p = 0 ∧ er = 0) ∨ (r = .err p er ∧ n = zeroN ∧ oa = none ∧ on = 0 ∧ oc = 0 ∧ ka = none ∧ kn = 0 ∧ kc = 0)) := by
  cases r with
  | ok m rest =>
    obtain ⟨hg, v, he, ofv, kv, hv, h1, h2⟩ := h
    obtain ⟨oa, on, oc, rfl⟩ := h1.isSlice
    obtain ⟨ka, kn, kc, rfl⟩ := h2.isSlice
    exact ⟨m, oa, on, oc, ka, kn, kc, 0, 0, by rw [he, hv]; rfl, hg, h1, h2, .inl ⟨rest, rfl, rfl, rfl⟩⟩
  | err p er =>
    obtain ⟨hg, he⟩ := h
    exact ⟨zeroN, none, 0, 0, none, 0, 0, p, er, he, hg, RepOf.nil _ _, RepK.nil _ _, .inr ⟨rfl, rfl, rfl, rfl, rfl, rfl, rfl, rfl⟩⟩
set_option maxRecDepth 100000 in
set_option maxHeartbeats 4000000 in
theorem Parse_any (s : ByteArray) (w : World) (hv : Vars w) : Calls Tryz.prog 10 #[.string s] w (unitRes (parseP s.data.toList) w) := by
  have HT := Lib.hid (tokens_anyQ s (w.alloc (.cells #[.int .i64 0, .string ⟨#[]⟩, .int .i64 0, .int .i64 0, .int .i64 0, .string ⟨#[]⟩, .slice none 0 0, .slice none 0 0] 28)) (hv.below ((Below.refl w.heap.size w).alloc (Nat.le_refl _) (.cells #[.int .i64 0, .string ⟨#[]⟩, .int .i64 0, .int .i64 0, .int .i64 0, .string ⟨#[]⟩, .slice none 0 0, .slice none 0 0] 28)) hv.size))
  have hz := hv.size
  have HV := Lib.hid hv
  clear hv
  go_enter Tryz.func10, Tryz.ntmps10
  go_wp2_with fail
  refine HT.out.mono ?_
  have hpP : parseP s.data.toList = match tokensR s.data.toList with | .bad p e => .err p e | .ok l => finP (unitP (l ++ [⟨0, s.data.toList.length, [], 0⟩])) := rfl
  cases hR : tokensR s.data.toList with
  | bad p er =>
    rintro e w1 ⟨hB, rfl⟩
    have her := tokensR_bad hR
    have hg := below_gr hB
    have hN := blk_call (blk_new w (.cells #[.int .i64 0, .string ⟨#[]⟩, .int .i64 0, .int .i64 0, .int .i64 0, .string ⟨#[]⟩, .slice none 0 0, .slice none 0 0] 28)) hg (by simp)
    obtain ⟨⟨r0, r1, r2, r3, r4, r5, r6, r7⟩, e0, e1, e2, e3, e4, e5, e6, e7⟩ := cells8_of _ w.heap.size _ _ _ _ _ _ _ _ _ hN
    have HN := Lib.hid hN
    have HG := Lib.hid (grownBy_trans (gr_alloc (grownBy_refl w none) (.cells #[.int .i64 0, .string ⟨#[]⟩, .int .i64 0, .int .i64 0, .int .i64 0, .string ⟨#[]⟩, .slice none 0 0, .slice none 0 0] 28)) hg)
    have HPP := Lib.hid (show parseP s.data.toList = .err p er by rw [hpP, hR])
    have hlt := lt_of_heap hN
    clear hB hg hN hR hpP
    go_wp2_with fail
    have hA := blk_put8 HN.out (.int .i64 0) (.string ⟨#[]⟩) (.int .i64 0) (.int .i64 0) (.int .i64 0) (.string ⟨#[]⟩) (.slice none 0 0) (.slice none 0 0)
    obtain ⟨⟨q0, q1, q2, q3, q4, q5, q6, q7⟩, _⟩ := cells8_of _ w.heap.size _ _ _ _ _ _ _ _ _ hA
    refine bodyPost_ret (v := .tuple #[ndV zeroN (.slice none 0 0) (.slice none 0 0), .int .i64 p, .int .i64 er]) ?_ rfl ⟨?_, ?_⟩
    · simp [results, Tryz.results10, go_sem, q0, q1, q2, q3, q4, q5, q6, q7, ndV]
      exact ⟨rfl, rfl, rfl, rfl, rfl, rfl⟩
    · repeat (first | with_reducible exact HG.out | with_reducible refine World.grownBy.gr_set ?_ (by simp) _)
    · rw [HPP.out]; rfl
  | ok l =>
    rintro e w1 ⟨hB, v, rfl, ho⟩
    obtain ⟨hl1, hl2⟩ := tokensR_len hR
    have hg := below_gr hB
    have hN := blk_call (blk_new w (.cells #[.int .i64 0, .string ⟨#[]⟩, .int .i64 0, .int .i64 0, .int .i64 0, .string ⟨#[]⟩, .slice none 0 0, .slice none 0 0] 28)) hg (by simp)
    have HN := Lib.hid hN
    have HG := Lib.hid (grownBy_trans (gr_alloc (grownBy_refl w none) (.cells #[.int .i64 0, .string ⟨#[]⟩, .int .i64 0, .int .i64 0, .int .i64 0, .string ⟨#[]⟩, .slice none 0 0, .slice none 0 0] 28)) hg)
    have HPP := Lib.hid (show parseP s.data.toList = finP (unitP (l ++ [⟨0, s.data.toList.length, [], 0⟩])) by rw [hpP, hR])
    have HO := Lib.hid ho
    have HL1 := Lib.hid hl1
    have HL2 := Lib.hid hl2
    have hlt := lt_of_heap hN
    have hss : s.size ≤ 20000 := by simpa using hl1
    have hfv : ∃ a n c, v = .slice a n c := by
      rcases ho.2 with ⟨rfl, _⟩ | ⟨g'', cap, cur, hv, _⟩
      · exact ⟨_, _, _, rfl⟩
      · exact ⟨_, _, _, hv⟩
    obtain ⟨a, n, c, rfl⟩ := hfv
    clear hB hg hN hR hpP ho hl1 hl2
    obtain ⟨i0, hi, hz0, hz1, hz2⟩ := info_parts info49
    go_wp2_with (at_builtin; go_must (refine wpList_append_own _ rfl (.tmp 21) (.tmp 25) 38 rfl (w.alloc (.cells #[.int .i64 0, .string ⟨#[]⟩, .int .i64 0, .int .i64 0, .int .i64 0, .string ⟨#[]⟩, .slice none 0 0, .slice none 0 0] 28)).heap.size 49 i0 _ 4 40 Tryz.underlying38 hi hz0 hz1 hz2 rfl (by decide) _ l.length (cellsOf l) rfl (HO.out.alloc _) ⟨w1.heap.size, 0, none⟩ 1 1 [.int .i64 0, .int .i64 s.size, .string ⟨#[]⟩, .int .i64 0] rfl rfl ?_ ?_ ?_ ?_ ?_ ?_))
    · exact cells_new _ _ _ _
    · intro u hu; simp at hu; rcases hu with rfl | rfl | rfl | rfl <;> rfl
    · unfold maxLen; have := HL1.out; have := HL2.out; omega
    · have := HL1.out; have := HL2.out; omega
    · have := HG.out.size; simp; omega
    intro v' w2 hown' hgrow _
    have hg2 := gr_own (gr_alloc HG.out _) hgrow (fun k hk => by have := (HO.out.lt k hk).1; simp at this; omega)
    have hN2 := blk_call (blk_alloc HN.out (.cells #[.int .i64 0, .int .i64 s.size, .string ⟨#[]⟩, .int .i64 0] 49)) hgrow (by intro e; have := (HO.out.lt w.heap.size e).1; simp at this; omega)
    have hB : ∃ g cap, v' = .slice (some ⟨g, 0, none⟩) (l.length + 1) cap ∧ ∀ (j : Nat) (u : Value), (cellsOf l ++ [.int .i64 0, .int .i64 s.size, .string ⟨#[]⟩, .int .i64 0])[j]? = some u → w2.cell? ⟨g, j, none⟩ = some u := by
      rcases hown'.2 with ⟨_, h⟩ | ⟨g, cap, cur, hv, _, hh, _, _, _, ht⟩
      · omega
      · refine ⟨g, cap, hv, fun j u hu => ?_⟩
        rw [← ht, List.getElem?_take] at hu
        split at hu
        · rw [cell_of_row w2 g j _ _ _ hh]; simpa using hu
        · cases hu
    obtain ⟨g, cap, rfl, hcl⟩ := hB
    have hC := parseUnit_any (l ++ [⟨0, s.data.toList.length, [], 0⟩]) g cap w2 (fun j u hu => hcl j u (by rw [cellsOf_tks]; simpa [tksC, tkC] using hu)) (by simp) (fun j t hj ht => by
      rcases Nat.lt_or_ge j l.length with h | h
      · simp; omega
      · exfalso
        rw [List.getElem?_append_right h] at hj
        cases hk : j - l.length with
        | zero => rw [hk] at hj; simp at hj; subst hj; simp at ht
        | succ k => rw [hk] at hj; simp at hj) (by have := HL1.out; have := HL2.out; simp; omega)
    rw [List.length_append] at hC
    generalize unitP (l ++ [⟨0, s.data.toList.length, [], 0⟩]) = r at *
    have HC := Lib.hid hC
    have HN2 := Lib.hid hN2
    have HG2 := Lib.hid hg2
    clear hC hN2 hg2 hcl hown' hgrow HN HG HO HL1 HL2 hlt
    go_wp2_with fail
    refine HC.out.mono ?_
    intro e w3 hur
    obtain ⟨nd, oa, on, oc, ka, kn, kc, p, er, rfl, hg3, hof, hkd, hcase⟩ := unitRes_gen hur
    have hn3 := blk_call HN2.out hg3 (by simp)
    have HN3 := Lib.hid (blk_alloc hn3 (.cells #[.int .i64 nd.kind, .string ⟨nd.text.toArray⟩, .int .i64 nd.num, .int .i64 nd.typ.kind, .int .i64 nd.typ.num, .string ⟨nd.typ.name.toArray⟩, .slice oa on oc, .slice ka kn kc] 28))
    have HGg := Lib.hid (grownBy_trans HG2.out hg3)
    have HG3 := Lib.hid (gr_alloc (grownBy_trans HG2.out hg3) (.cells #[.int .i64 nd.kind, .string ⟨nd.text.toArray⟩, .int .i64 nd.num, .int .i64 nd.typ.kind, .int .i64 nd.typ.num, .string ⟨nd.typ.name.toArray⟩, .slice oa on oc, .slice ka kn kc] 28))
    have hz2 := HG2.out.size
    have HO3 := Lib.hid ((hof.mono (S' := fun g => w.heap.size + 1 ≤ g ∧ g ≠ w3.heap.size) (fun g h1 h2 => ⟨by have := lt_of_heap HN2.out; omega, by omega⟩) (fun _ _ _ => rfl)).grow (gr_alloc (grownBy_refl _ _) (.cells #[.int .i64 nd.kind, .string ⟨nd.text.toArray⟩, .int .i64 nd.num, .int .i64 nd.typ.kind, .int .i64 nd.typ.num, .string ⟨nd.typ.name.toArray⟩, .slice oa on oc, .slice ka kn kc] 28)))
    have HK3 := Lib.hid ((hkd.mono (S' := fun g => w.heap.size + 1 ≤ g ∧ g ≠ w3.heap.size) (fun g h1 h2 => ⟨by have := lt_of_heap HN2.out; omega, by omega⟩) (fun _ _ _ => rfl)).grow (gr_alloc (grownBy_refl _ _) (.cells #[.int .i64 nd.kind, .string ⟨nd.text.toArray⟩, .int .i64 nd.num, .int .i64 nd.typ.kind, .int .i64 nd.typ.num, .string ⟨nd.typ.name.toArray⟩, .slice oa on oc, .slice ka kn kc] 28)))
    have HB3 := Lib.hid (blk_new w3 (.cells #[.int .i64 nd.kind, .string ⟨nd.text.toArray⟩, .int .i64 nd.num, .int .i64 nd.typ.kind, .int .i64 nd.typ.num, .string ⟨nd.typ.name.toArray⟩, .slice oa on oc, .slice ka kn kc] 28))
    have HCs := Lib.hid hcase
    have hz3 : w.heap.size < w3.heap.size := by have := hg3.size; have := lt_of_heap HN2.out; omega
    clear hur hof hkd hcase HC HN2 hg3
    unfold ndV
    by_cases her : er = 0
    · subst her
      have HD := Lib.hid (Depth_any nd oa ka on oc kn kc _ _ HK3.out)
      unfold ndV at HD
      go_wp2_with fail
      refine HD.out.mono ?_
      rintro e w4 ⟨rfl, hg4⟩
      obtain ⟨⟨r0, r1, r2, r3, r4, r5, r6, r7⟩, e0, e1, e2, e3, e4, e5, e6, e7⟩ := cells8_of w4 w.heap.size _ _ _ _ _ _ _ _ _ (blk_call HN3.out hg4 (by simp))
      obtain ⟨⟨s0, s1, s2, s3, s4, s5, s6, s7⟩, _⟩ := cells8_of w4 w3.heap.size _ _ _ _ _ _ _ _ _ (blk_call HB3.out hg4 (by simp))
      have HN4 := Lib.hid (blk_call HN3.out hg4 (by simp))
      have HG4 := Lib.hid (grownBy_trans HG3.out hg4)
      have HO4 := Lib.hid (HO3.out.grow hg4)
      have HK4 := Lib.hid (HK3.out.grow hg4)
      have hsz4 : w.heap.size < w4.heap.size := lt_of_heap HN4.out
      have hsz5 : w3.heap.size < w4.heap.size := lt_of_heap (blk_call HB3.out hg4 (by simp))
      have hne : ¬ w.heap.size = w3.heap.size := by omega
      clear hg4 hn3 HD HK3 HO3 HN3 HB3 HG3
      by_cases hd : 250 < ndH nd
      · have hm : ((min (ndH nd) 251 : Nat) : Int) = 251 := by omega
        rw [hm]
        go_wp2_with fail
        have hA := blk_put8 HN4.out (.int .i64 0) (.string ⟨#[]⟩) (.int .i64 0) (.int .i64 0) (.int .i64 0) (.string ⟨#[]⟩) (.slice none 0 0) (.slice none 0 0)
        refine bodyPost_ret (v := .tuple #[ndV zeroN (.slice none 0 0) (.slice none 0 0), .int .i64 0, .int .i64 4]) ?_ rfl ⟨?_, ?_⟩
        · exact parse_results hA rfl rfl rfl
        · repeat (first | with_reducible exact HG4.out | with_reducible refine World.grownBy.gr_set ?_ (by simp) _)
        · rcases HCs.out with ⟨rest, h, _, _⟩ | ⟨_, h, _⟩
          · rw [HPP.out, h]
            show match (if 250 < ndH nd then (.err 0 4 : PR Nd) else .ok nd rest) with | .ok n _ => _ | .err p er => _
            rw [if_pos hd]; rfl
          · subst h; exact absurd hd (by decide)
      · have hm : ((min (ndH nd) 251 : Nat) : Int) = ndH nd := by omega
        have hm2 : ¬ (250 : Int) < ndH nd := by omega
        rw [hm]
        go_wp2_with fail
        have hA := blk_put8 HN4.out (.int .i64 nd.kind) (.string ⟨nd.text.toArray⟩) (.int .i64 nd.num) (.int .i64 nd.typ.kind) (.int .i64 nd.typ.num) (.string ⟨nd.typ.name.toArray⟩) (.slice oa on oc) (.slice ka kn kc)
        refine bodyPost_ret (v := .tuple #[ndV nd (.slice oa on oc) (.slice ka kn kc), .int .i64 p, .int .i64 0]) ?_ rfl ⟨?_, ?_⟩
        · exact parse_results hA rfl rfl rfl
        · repeat (first | with_reducible exact HG4.out | with_reducible refine World.grownBy.gr_set ?_ (by simp) _)
        · rcases HCs.out with ⟨rest, h, h0, _⟩ | ⟨h, hz, ho1, ho2, ho3, hk1, hk2, hk3⟩
          · rw [HPP.out, h]
            show match (if 250 < ndH nd then (.err 0 4 : PR Nd) else .ok nd rest) with | .ok n _ => _ | .err p er => _
            rw [if_neg hd]
            have hK := (Kept.refl (Sx w.heap.size [w.heap.size]) w4).set8 (b := w.heap.size) (by simp) (.int .i64 nd.kind) (.string ⟨nd.text.toArray⟩) (.int .i64 nd.num) (.int .i64 nd.typ.kind) (.int .i64 nd.typ.num) (.string ⟨nd.typ.name.toArray⟩) (.slice oa on oc) (.slice ka kn kc)
            refine ⟨ndV nd (.slice oa on oc) (.slice ka kn kc), by rw [h0]; rfl, _, _, rfl, ?_, ?_⟩
            · exact ((HO4.out.mono (S' := Sx w.heap.size [w.heap.size]) (fun g h _ => ⟨by omega, by simp; omega⟩) (fun _ _ _ => rfl)).kept hK).out (Nat.le_refl _)
            · exact ((HK4.out.mono (S' := Sx w.heap.size [w.heap.size]) (fun g h _ => ⟨by omega, by simp; omega⟩) (fun _ _ _ => rfl)).kept hK).out (Nat.le_refl _)
          · rw [HPP.out, h, hz, ho1, ho2, ho3, hk1, hk2, hk3]; rfl
    · obtain ⟨⟨r0, r1, r2, r3, r4, r5, r6, r7⟩, e0, e1, e2, e3, e4, e5, e6, e7⟩ := cells8_of w3 w.heap.size _ _ _ _ _ _ _ _ _ hn3
      have hne : ¬ w.heap.size = w3.heap.size := by omega
      have hn4 := Lib.hid hn3
      clear hn3
      go_wp2_with fail
      have hA := blk_alloc (blk_put8 hn4.out (.int .i64 nd.kind) (.string ⟨nd.text.toArray⟩) (.int .i64 nd.num) (.int .i64 nd.typ.kind) (.int .i64 nd.typ.num) (.string ⟨nd.typ.name.toArray⟩) (.slice oa on oc) (.slice ka kn kc)) (.cells #[.int .i64 nd.kind, .string ⟨nd.text.toArray⟩, .int .i64 nd.num, .int .i64 nd.typ.kind, .int .i64 nd.typ.num, .string ⟨nd.typ.name.toArray⟩, .slice oa on oc, .slice ka kn kc] 28)
      rcases HCs.out with ⟨_, _, _, h⟩ | ⟨rfl, rfl, rfl, rfl, rfl, rfl, rfl, rfl⟩
      · exact absurd h her
      · refine bodyPost_ret (v := .tuple #[ndV zeroN (.slice none 0 0) (.slice none 0 0), .int .i64 p, .int .i64 er]) ?_ rfl ⟨?_, ?_⟩
        · exact parse_results hA rfl rfl rfl
        · refine gr_alloc ?_ _
          repeat (first | with_reducible exact HGg.out | with_reducible refine World.grownBy.gr_set ?_ (by simp) _)
        · rw [HPP.out]; rfl

end Go.Proofs.YtkbplcfehllbjaaGreatDoor
/- Examples at the head of stage 2's statements. -/
namespace Go.Proofs.YtkbplcfehllbjaaGreatDoor
open Go.RowKit
theorem pex1 : parseP [105, 110, 116, 32, 42, 97, 91, 51, 93, 59] = .ok (.mk 23 [] 0 (.mk 0 0 [] []) [.mk 21 [97] 0 (.mk 6 3 [] [.mk 5 0 [] [.mk 3 0 [] []]]) []]) [⟨0, 10, [], 0⟩] := by kernel_rfl
theorem pex2 : parseP [108, 111, 110, 103, 32, 40, 42, 102, 41, 40, 105, 110, 116, 44, 32, 99, 104, 97, 114, 32, 42, 41, 59] = .ok (.mk 23 [] 0 (.mk 0 0 [] []) [.mk 21 [102] 0 (.mk 5 0 [] [.mk 9 0 [] [.mk 4 0 [] [], .mk 3 0 [] [], .mk 5 0 [] [.mk 2 0 [] []]]]) []]) [⟨0, 23, [], 0⟩] := by kernel_rfl
theorem pex3 : parseP [105, 110, 116, 32, 102, 40, 105, 110, 116, 32, 120, 41, 32, 123, 32, 114, 101, 116, 117, 114, 110, 32, 120, 32, 125] = .err 24 2 := by kernel_rfl

/-- A list of one node, opened. -/
theorem RepK.open1 {w : World} {S : Nat → Prop} {a : Option Addr} {n c : Nat} {nd : Nd} (h : RepK w S (.slice a n c) [nd]) : ∃ (g : Nat) (oa : Option Addr) (on oc : Nat) (ka : Option Addr) (kn kc : Nat), a = some ⟨g, 0, none⟩ ∧ n = 1 ∧ g < w.heap.size ∧
    (w.cell? ⟨g, 0, none⟩ = some (.int .i64 nd.kind) ∧ w.cell? ⟨g, 1, none⟩ = some (.string ⟨nd.text.toArray⟩) ∧ w.cell? ⟨g, 2, none⟩ = some (.int .i64 nd.num) ∧ w.cell? ⟨g, 3, none⟩ = some (.int .i64 nd.typ.kind) ∧ w.cell? ⟨g, 4, none⟩ = some (.int .i64 nd.typ.num) ∧ w.cell? ⟨g, 5, none⟩ = some (.string ⟨nd.typ.name.toArray⟩) ∧ w.cell? ⟨g, 6, none⟩ = some (.slice oa on oc) ∧ w.cell? ⟨g, 7, none⟩ = some (.slice ka kn kc)) ∧
    RepOf w S (.slice oa on oc) nd.typ.of ∧ RepK w S (.slice ka kn kc) nd.kids := by
  have hn := h.len
  obtain ⟨g, cur, rfl, hs, hg, _⟩ := h.some_of (by simp)
  obtain ⟨cells, ho, _, hl⟩ := h
  simp at hn
  subst hn
  obtain ⟨c1, c2, hc, h1, h2⟩ := hl
  have h3 : c2 = [] := h2
  subst h3
  cases nd with
  | mk k tx m t kids =>
    obtain ⟨ofv, kv, rfl, hof, hk⟩ := h1
    obtain ⟨oa, on, oc, rfl⟩ := hof.isSlice
    obtain ⟨ka, kn, kc, rfl⟩ := RepK.isSlice hk
    subst hc
    have hr := row_cells8 (k := 0) (c1 := []) (c2 := []) ho rfl
    simp at hr
    exact ⟨g, oa, on, oc, ka, kn, kc, rfl, rfl, lt_of_heap hg, hr, hof, hk⟩
theorem RepOf.len {w : World} {S : Nat → Prop} {a : Option Addr} {n c : Nat} {l : List Ty} (h : RepOf w S (.slice a n c) l) : n = l.length := by
  obtain ⟨cells, ho, _, _⟩ := h
  rcases ho.2 with ⟨hv, hn⟩ | ⟨g, cap, cur, hv, _⟩
  · cases hv; exact hn.symm
  · simp only [Value.slice.injEq] at hv; exact hv.2.1
theorem RepOf.some_of {w : World} {S : Nat → Prop} {a : Option Addr} {n c : Nat} {l : List Ty} (h : RepOf w S (.slice a n c) l) (hl : 0 < l.length) : ∃ g cur, a = some ⟨g, 0, none⟩ ∧ S g ∧ w.heap[g]? = some (.cells cur 25 (0, 0)) ∧ l.length ≤ maxLen := by
  obtain ⟨cells, ho, hs, _⟩ := h
  rcases ho.2 with ⟨hv, hn⟩ | ⟨g, cap, cur, hv, _, hh, h1, h2, _⟩
  · omega
  · simp only [Value.slice.injEq] at hv
    obtain ⟨rfl, _, _⟩ := hv
    exact ⟨g, cur, rfl, hs g rfl, hh, by omega⟩
/-- A list of types, its first opened. -/
theorem RepOf.open1 {w : World} {S : Nat → Prop} {a : Option Addr} {n c : Nat} {t : Ty} {l : List Ty} (h : RepOf w S (.slice a n c) (t :: l)) : ∃ (g : Nat) (oa : Option Addr) (on oc : Nat), a = some ⟨g, 0, none⟩ ∧ n = l.length + 1 ∧ g < w.heap.size ∧
    (w.cell? ⟨g, 0, none⟩ = some (.int .i64 t.kind) ∧ w.cell? ⟨g, 1, none⟩ = some (.int .i64 t.num) ∧ w.cell? ⟨g, 2, none⟩ = some (.string ⟨t.name.toArray⟩) ∧ w.cell? ⟨g, 3, none⟩ = some (.slice oa on oc)) ∧ RepOf w S (.slice oa on oc) t.of := by
  have hn := h.len
  obtain ⟨g, cur, rfl, hs, hg, _⟩ := h.some_of (by simp)
  obtain ⟨cells, ho, _, hl⟩ := h
  simp at hn
  subst hn
  obtain ⟨c1, c2, hc, h1, h2⟩ := hl
  cases t with
  | mk k m nm of =>
    obtain ⟨ofv, rfl, hof⟩ := h1
    obtain ⟨oa, on, oc, rfl⟩ := RepOf.isSlice hof
    subst hc
    have hr := row_cells4 (k := 0) (c1 := []) (c2 := c2) ho rfl
    simp at hr
    exact ⟨g, oa, on, oc, rfl, rfl, lt_of_heap hg, hr.1, hof⟩
theorem Parse_ok {s : ByteArray} {n : Nd} {rest : List T4} {w : World} (hv : Vars w) (h : parseP s.data.toList = .ok n rest) : Calls Tryz.prog 10 #[.string s] w fun e w' => w.grownBy w' none ∧ ∃ (k m tk tm : Int) (tx nm : ByteArray) (oa : Option Addr) (on oc : Nat) (ka : Option Addr) (kn kc : Nat), e = .returned (.tuple #[.agg #[.int .i64 k, .string tx, .int .i64 m, .int .i64 tk, .int .i64 tm, .string nm, .slice oa on oc, .slice ka kn kc], .int .i64 0, .int .i64 0]) ∧
    Hid (k = n.kind ∧ tx = ⟨n.text.toArray⟩ ∧ m = n.num ∧ tk = n.typ.kind ∧ tm = n.typ.num ∧ nm = ⟨n.typ.name.toArray⟩) ∧ Hid (RepOf w' (fun g => w.heap.size ≤ g) (.slice oa on oc) n.typ.of) ∧ Hid (RepK w' (fun g => w.heap.size ≤ g) (.slice ka kn kc) n.kids) :=
  (Parse_any s w hv).mono fun e w' hu => by
    rw [h] at hu
    obtain ⟨hg, v, rfl, ofv, kv, rfl, h1, h2⟩ := hu
    obtain ⟨oa, on, oc, rfl⟩ := h1.isSlice
    obtain ⟨ka, kn, kc, rfl⟩ := h2.isSlice
    exact ⟨hg, _, _, _, _, _, _, oa, on, oc, ka, kn, kc, rfl, ⟨rfl, rfl, rfl, rfl, rfl, rfl⟩, h1, h2⟩
theorem Parse_bad {s : ByteArray} {p : Nat} {er : Int} {w : World} (hv : Vars w) (h : parseP s.data.toList = .err p er) : Calls Tryz.prog 10 #[.string s] w fun e w' => w.grownBy w' none ∧ e = .returned (.tuple #[ndV zeroN (.slice none 0 0) (.slice none 0 0), .int .i64 p, .int .i64 er]) :=
  (Parse_any s w hv).mono fun e w' hu => by rw [h] at hu; exact hu
theorem Vars.grow {w w' : World} (h : Vars w) (g : w.grownBy w' none) : Vars w' := h.below (grownBy_below (grownBy_some g (w.heap.size)) (Nat.le_refl _) (Nat.le_refl _)) h.size
set_option maxRecDepth 100000 in
set_option maxHeartbeats 4000000 in
theorem shown_any (w : World) (hv : Vars w) : Calls Tryz.prog 9 #[] w fun e w' => e = .returned (.bool true) ∧ w.grownBy w' none := by
  have HV := Lib.hid hv
  clear hv
  go_enter Tryz.func9, Tryz.ntmps9
  go_wp2_with fail
  refine (Parse_ok HV.out pex1).mono ?_
  rintro e w1 ⟨hg1, k1, m1, tk1, tm1, tx1, nm1, oa1, on1, oc1, ka1, kn1, kc1, rfl, -, -, hk1⟩
  have HG1 := Lib.hid hg1
  clear hg1
  go_wp2_with fail
  have hb1 := blk_new w1 (.cells #[.int .i64 k1, .string tx1, .int .i64 m1, .int .i64 tk1, .int .i64 tm1, .string nm1, .slice oa1 on1 oc1, .slice ka1 kn1 kc1] 28)
  have hgA := gr_alloc HG1.out (.cells #[.int .i64 k1, .string tx1, .int .i64 m1, .int .i64 tk1, .int .i64 tm1, .string nm1, .slice oa1 on1 oc1, .slice ka1 kn1 kc1] 28)
  have hkA := hk1.out.grow (gr_alloc (grownBy_refl w1 none) (.cells #[.int .i64 k1, .string tx1, .int .i64 m1, .int .i64 tk1, .int .i64 tm1, .string nm1, .slice oa1 on1 oc1, .slice ka1 kn1 kc1] 28))
  have HB1 := Lib.hid hb1
  have HGA := Lib.hid hgA
  have HKA := Lib.hid hkA
  clear hb1 hgA hkA hk1
  generalize w1.alloc (.cells #[.int .i64 k1, .string tx1, .int .i64 m1, .int .i64 tk1, .int .i64 tm1, .string nm1, .slice oa1 on1 oc1, .slice ka1 kn1 kc1] 28) = wA at *
  generalize w1.heap.size = b1 at *
  refine (Parse_ok (HV.out.grow HGA.out) pex2).mono ?_
  rintro e w2 ⟨hg2, k2, m2, tk2, tm2, tx2, nm2, oa2, on2, oc2, ka2, kn2, kc2, rfl, -, -, hk2⟩
  have HG2 := Lib.hid hg2
  clear hg2
  go_wp2_with fail
  have hb2 := blk_new w2 (.cells #[.int .i64 k2, .string tx2, .int .i64 m2, .int .i64 tk2, .int .i64 tm2, .string nm2, .slice oa2 on2 oc2, .slice ka2 kn2 kc2] 28)
  have hgB := gr_alloc HG2.out (.cells #[.int .i64 k2, .string tx2, .int .i64 m2, .int .i64 tk2, .int .i64 tm2, .string nm2, .slice oa2 on2 oc2, .slice ka2 kn2 kc2] 28)
  have hkB := hk2.out.grow (gr_alloc (grownBy_refl w2 none) (.cells #[.int .i64 k2, .string tx2, .int .i64 m2, .int .i64 tk2, .int .i64 tm2, .string nm2, .slice oa2 on2 oc2, .slice ka2 kn2 kc2] 28))
  have HB2 := Lib.hid hb2
  have HGB := Lib.hid hgB
  have HKB := Lib.hid hkB
  clear hb2 hgB hkB hk2
  generalize w2.alloc (.cells #[.int .i64 k2, .string tx2, .int .i64 m2, .int .i64 tk2, .int .i64 tm2, .string nm2, .slice oa2 on2 oc2, .slice ka2 kn2 kc2] 28) = wB at *
  generalize w2.heap.size = b2 at *
  refine (Parse_bad ((HV.out.grow HGA.out).grow HGB.out) pex3).mono ?_
  rintro e w3 ⟨hg3, rfl⟩
  have HG3 := Lib.hid hg3
  obtain ⟨g1, oa3, on3, oc3, ka3, kn3, kc3, rfl, rfl, hl1, ⟨p0, p1, p2, p3, p4, p5, p6, p7⟩, hof1, -⟩ := ((HKA.out.grow HGB.out).grow hg3).open1
  obtain ⟨g2, oa4, on4, oc4, rfl, rfl, hl2, ⟨q0, q1, q2, q3⟩, -⟩ := RepOf.open1 hof1
  obtain ⟨g3, oa5, on5, oc5, ka5, kn5, kc5, rfl, rfl, hl3, ⟨r0, r1, r2, r3, r4, r5, r6, r7⟩, hof2, -⟩ := (HKB.out.grow hg3).open1
  obtain ⟨g4, oa6, on6, oc6, rfl, rfl, hl4, ⟨s0, s1, s2, s3⟩, hof3⟩ := RepOf.open1 hof2
  have hn6 := hof3.len
  obtain ⟨⟨t0, t1, t2, t3, t4, t5, t6, t7⟩, _⟩ := cells8_of w3 b1 _ _ _ _ _ _ _ _ _ (blk_call (blk_call HB1.out HGB.out (by simp)) hg3 (by simp))
  obtain ⟨⟨u0, u1, u2, u3, u4, u5, u6, u7⟩, _⟩ := cells8_of w3 b2 _ _ _ _ _ _ _ _ _ (blk_call HB2.out hg3 (by simp))
  simp [Nd.kind, Nd.text, Nd.num, Nd.typ, Ty.kind, Ty.num, Ty.name, Ty.of] at p0 p1 p2 p3 p4 p5 q0 q1 q2 r0 r1 r2 r3 r4 r5 s0 s1 s2 hn6
  subst hn6
  have hb1 := lt_of_heap (blk_call (blk_call HB1.out HGB.out (by simp)) hg3 (by simp))
  have hb2 := lt_of_heap (blk_call HB2.out hg3 (by simp))
  clear hg3 hof1 hof2 hof3
  unfold ndV
  go_wp2_with fail
  go_ret
  exact ⟨rfl, gr_alloc (grownBy_trans HGA.out (grownBy_trans HGB.out HG3.out)) _⟩

end Go.Proofs.YtkbplcfehllbjaaGreatDoor
/- crosstreeref02.SameT, where the answer is yes. -/
namespace Go.Proofs.YtkbplcfehllbjaaGreatDoor
open Go.RowKit
attribute [local go_sem ↓] Go.wp_at_zero Go.wp_at_succ
theorem RepT.len {w : World} {S : Nat → Prop} : ∀ (t : Ty) (cs : List Value), RepT w S t cs → cs.length = 4
  | .mk _ _ _ _, _, ⟨_, hc, _⟩ => by rw [hc]; rfl
theorem RepTl.kid {w : World} {S : Nat → Prop} : ∀ (l : List Ty) (cs : List Value), RepTl w S l cs → ∀ (k : Nat) (h : k < l.length), ∃ (c1 c2 : List Value) (oa : Option Addr) (on oc : Nat), cs = c1 ++ (tyC l[k] (.slice oa on oc) ++ c2) ∧ c1.length = k * 4 ∧ RepOf w S (.slice oa on oc) (l[k]).of
  | [], cs, _, k, h => absurd h (by simp)
  | a :: l, cs, ⟨d1, d2, hd, h1, h2⟩, 0, _ => by
    cases a with
    | mk k n nm of =>
      obtain ⟨ofv, rfl, hof⟩ := h1
      obtain ⟨oa, on, oc, rfl⟩ := RepOf.isSlice hof
      exact ⟨[], d2, oa, on, oc, hd, rfl, hof⟩
  | a :: l, cs, ⟨d1, d2, hd, h1, h2⟩, k + 1, h => by
    obtain ⟨c1, c2, oa, on, oc, e1, e2, e3⟩ := RepTl.kid l d2 h2 k (by simpa using h)
    exact ⟨d1 ++ c1, c2, oa, on, oc, by rw [hd, e1, List.append_assoc]; rfl, by rw [List.length_append, RepT.len a d1 h1, e2]; omega, e3⟩
theorem RepOf.kid {w : World} {S : Nat → Prop} {a : Option Addr} {n c : Nat} {l : List Ty} (h : RepOf w S (.slice a n c) l) (k : Nat) (hk : k < l.length) : ∃ (g : Nat) (oa : Option Addr) (on oc : Nat), a = some ⟨g, 0, none⟩ ∧ g < w.heap.size ∧
    (w.cell? ⟨g, k * 4, none⟩ = some (.int .i64 (l[k]).kind) ∧ w.cell? ⟨g, k * 4 + 1, none⟩ = some (.int .i64 (l[k]).num) ∧ w.cell? ⟨g, k * 4 + 2, none⟩ = some (.string ⟨(l[k]).name.toArray⟩) ∧ w.cell? ⟨g, k * 4 + 3, none⟩ = some (.slice oa on oc)) ∧ RepOf w S (.slice oa on oc) (l[k]).of := by
  have hn := h.len
  obtain ⟨g, cur, rfl, _, hg, _⟩ := h.some_of (by omega)
  obtain ⟨cells, ho, _, hl⟩ := h
  obtain ⟨c1, c2, oa, on, oc, e1, e2, e3⟩ := RepTl.kid l cells hl k hk
  subst e1; subst hn
  exact ⟨g, oa, on, oc, rfl, lt_of_heap hg, (row_cells4 ho e2).1, e3⟩
def SameTP (t : Ty) : Prop := ∀ (S S' : Nat → Prop) (oa : Option Addr) (on oc : Nat) (ob : Option Addr) (om od : Nat) (w : World), RepOf w S (.slice oa on oc) t.of → RepOf w S' (.slice ob om od) t.of →
  Calls Tryz.prog 17 #[tyV t (.slice oa on oc), tyV t (.slice ob om od)] w fun e w' => e = .returned (.bool true) ∧ w.grownBy w' none
set_option maxRecDepth 100000 in
set_option maxHeartbeats 4000000 in
theorem sameT_step (k n : Int) (nm : List UInt8) (l : List Ty) (ih : ∀ t ∈ l, SameTP t) : SameTP (.mk k n nm l) := by
  intro S S' oa on oc ob om od w h1 h2
  have hl1 := h1.len
  have hl2 := h2.len
  have hlm : l.length ≤ maxLen := by
    cases l with
    | nil => simp
    | cons t l => obtain ⟨_, _, _, _, _, h⟩ := h1.some_of (by simp [Ty.of]); exact h
  have H1 := Lib.hid (show RepOf w S (.slice oa on oc) l from h1)
  have H2 := Lib.hid (show RepOf w S' (.slice ob om od) l from h2)
  have HI := Lib.hid ih
  have hl3 : on = l.length := hl1
  have hl4 : om = on := by rw [hl1, hl2]
  subst hl4
  have HL := Lib.hid hl3
  have HM := Lib.hid hlm
  clear h1 h2 ih hl1 hl2 hl3 hlm
  unfold tyV
  simp only [Ty.kind, Ty.num, Ty.name]
  obtain ⟨bs, hbs⟩ : ∃ bs : ByteArray, ⟨nm.toArray⟩ = bs := ⟨_, rfl⟩
  rw [hbs]
  clear hbs
  go_enter Tryz.func17, Tryz.ntmps17
  go_wp2_with fail
  go_loopg [5] om (fun g0 x wr => ∃ i : Nat, i ≤ om ∧ g0 = om - i ∧ x = .int .i64 i ∧ Hid (w.grownBy wr none) ∧ Hid (wr.heap[w.heap.size]? = some (.cells #[.int .i64 k, .int .i64 n, .string bs, .slice oa om oc] 25 (0, 0))) ∧ Hid (wr.heap[w.heap.size + 1]? = some (.cells #[.int .i64 k, .int .i64 n, .string bs, .slice ob om od] 25 (0, 0))))
  case atStart => exact ⟨0, by omega, by omega, rfl, gr_alloc (gr_alloc (grownBy_refl w none) _) _, blk_alloc (blk_new w _) _, blk_new2 _ _ _⟩
  case round =>
    obtain ⟨i, hin, rfl, rfl, HG, HB, HC⟩ := hrel
    have b3 := cell_of_row _ _ 3 _ _ _ HB.out
    have c3 := cell_of_row _ _ 3 _ _ _ HC.out
    simp at b3 c3
    by_cases hi : i < om
    · have hi' : (i : Int) < om := by omega
      have hil : i < l.length := by have := HL.out; omega
      have hm := HM.out
      have hml : om ≤ maxLen := by have := HL.out; omega
      unfold maxLen at hml
      have w3 : IntKind.i64.wrap ((i : Int) + 1) = i + 1 := IntWalk.i64_in _ (by omega)
      obtain ⟨g1, xa, xn, xc, rfl, hg1, ⟨p0, p1, p2, p3⟩, hx⟩ := (H1.out.grow HG.out).kid i hil
      obtain ⟨g2, ya, yn, yc, rfl, hg2, ⟨q0, q1, q2, q3⟩, hy⟩ := (H2.out.grow HG.out).kid i hil
      have HS := Lib.hid (fun wx (g : wr.grownBy wx none) => HI.out l[i] (List.getElem_mem hil) _ _ xa xn xc ya yn yc wx (hx.grow g) (hy.grow g))
      unfold tyV at HS
      generalize l[i].kind = kk at *
      generalize l[i].num = nn at *
      obtain ⟨ss, hss⟩ : ∃ ss : ByteArray, ⟨(l[i]).name.toArray⟩ = ss := ⟨_, rfl⟩
      rw [hss] at p2 q2 HS
      clear hss hx hy hil hm
      go_wp2_with fail
      go_region_with (refine (HS.out _ (by repeat (first | with_reducible exact grownBy_refl _ _ | with_reducible assumption | with_reducible refine World.grownBy.gr_drew ?_ | with_reducible refine World.grownBy.gr_set ?_ (by simp) _ | with_reducible refine gr_alloc ?_ _))).mono ?_; rintro e wc ⟨rfl, hgc⟩)
      all_goals
        have HG2 := Lib.hid (grownBy_trans HG.out (grownBy_trans (show wr.grownBy _ none by repeat (first | with_reducible exact grownBy_refl _ _ | with_reducible assumption | with_reducible refine World.grownBy.gr_drew ?_ | with_reducible refine World.grownBy.gr_set ?_ (by simp) _ | with_reducible refine gr_alloc ?_ _)) hgc))
        have HB2 := Lib.hid (blk_call HB.out (grownBy_trans (show wr.grownBy _ none by repeat (first | with_reducible exact grownBy_refl _ _ | with_reducible assumption | with_reducible refine World.grownBy.gr_drew ?_ | with_reducible refine World.grownBy.gr_set ?_ (by simp) _ | with_reducible refine gr_alloc ?_ _)) hgc) (by simp))
        have HC2 := Lib.hid (blk_call HC.out (grownBy_trans (show wr.grownBy _ none by repeat (first | with_reducible exact grownBy_refl _ _ | with_reducible assumption | with_reducible refine World.grownBy.gr_drew ?_ | with_reducible refine World.grownBy.gr_set ?_ (by simp) _ | with_reducible refine gr_alloc ?_ _)) hgc) (by simp))
        clear hgc
        go_wp2_with fail
        go_roundg (om - (i + 1))
        case measure => omega
        case rel => exact ⟨i + 1, by omega, rfl, by simp, HG2.out, HB2.out, HC2.out⟩
    · have hi' : ¬ (i : Int) < om := by omega
      go_wp2_with fail
      go_ret
      exact ⟨rfl, HG.out⟩
mutual
theorem sameT_any : ∀ (t : Ty), SameTP t
  | .mk k n nm l => sameT_step k n nm l (sameT_all l)
theorem sameT_all : ∀ (l : List Ty) (t : Ty), t ∈ l → SameTP t
  | [], _, h => by cases h
  | a :: l, t, h => by
    rcases List.mem_cons.1 h with e | h
    · rw [e]; exact sameT_any a
    · exact sameT_all l t h
end

end Go.Proofs.YtkbplcfehllbjaaGreatDoor
/- crosstreeref02.Same, where the answer is yes. -/
namespace Go.Proofs.YtkbplcfehllbjaaGreatDoor
open Go.RowKit
attribute [local go_sem ↓] Go.wp_at_zero Go.wp_at_succ
theorem RepNl.kidN {w : World} {S : Nat → Prop} : ∀ (l : List Nd) (cs : List Value), RepNl w S l cs → ∀ (k : Nat) (h : k < l.length), ∃ (c1 c2 : List Value) (oa : Option Addr) (on oc : Nat) (ka : Option Addr) (kn kc : Nat), cs = c1 ++ (ndC l[k] (.slice oa on oc) (.slice ka kn kc) ++ c2) ∧ c1.length = k * 8 ∧ RepOf w S (.slice oa on oc) (l[k]).typ.of ∧ RepK w S (.slice ka kn kc) (l[k]).kids
  | [], cs, _, k, h => absurd h (by simp)
  | a :: l, cs, ⟨d1, d2, hd, h1, h2⟩, 0, _ => by
    cases a with
    | mk k tx n t kids =>
      obtain ⟨ofv, kv, rfl, hof, hk⟩ := h1
      obtain ⟨oa, on, oc, rfl⟩ := hof.isSlice
      obtain ⟨ka, kn, kc, rfl⟩ := RepK.isSlice hk
      exact ⟨[], d2, oa, on, oc, ka, kn, kc, hd, rfl, hof, hk⟩
  | a :: l, cs, ⟨d1, d2, hd, h1, h2⟩, k + 1, h => by
    obtain ⟨c1, c2, oa, on, oc, ka, kn, kc, e1, e2, e3⟩ := RepNl.kidN l d2 h2 k (by simpa using h)
    exact ⟨d1 ++ c1, c2, oa, on, oc, ka, kn, kc, by rw [hd, e1, List.append_assoc]; rfl, by rw [List.length_append, RepN.len a d1 h1, e2]; omega, e3⟩
/-- A list of nodes, one of them opened. -/
theorem RepK.kidN {w : World} {S : Nat → Prop} {a : Option Addr} {n c : Nat} {l : List Nd} (h : RepK w S (.slice a n c) l) (k : Nat) (hk : k < l.length) : ∃ (g : Nat) (oa : Option Addr) (on oc : Nat) (ka : Option Addr) (kn kc : Nat), a = some ⟨g, 0, none⟩ ∧ g < w.heap.size ∧
    (w.cell? ⟨g, k * 8, none⟩ = some (.int .i64 (l[k]).kind) ∧ w.cell? ⟨g, k * 8 + 1, none⟩ = some (.string ⟨(l[k]).text.toArray⟩) ∧ w.cell? ⟨g, k * 8 + 2, none⟩ = some (.int .i64 (l[k]).num) ∧ w.cell? ⟨g, k * 8 + 3, none⟩ = some (.int .i64 (l[k]).typ.kind) ∧ w.cell? ⟨g, k * 8 + 4, none⟩ = some (.int .i64 (l[k]).typ.num) ∧ w.cell? ⟨g, k * 8 + 5, none⟩ = some (.string ⟨(l[k]).typ.name.toArray⟩) ∧ w.cell? ⟨g, k * 8 + 6, none⟩ = some (.slice oa on oc) ∧ w.cell? ⟨g, k * 8 + 7, none⟩ = some (.slice ka kn kc)) ∧
    RepOf w S (.slice oa on oc) (l[k]).typ.of ∧ RepK w S (.slice ka kn kc) (l[k]).kids := by
  have hn := h.len
  obtain ⟨g, cur, rfl, _, hg, _⟩ := h.some_of (by omega)
  obtain ⟨cells, ho, _, hl⟩ := h
  obtain ⟨c1, c2, oa, on, oc, ka, kn, kc, e1, e2, e3, e4⟩ := RepNl.kidN l cells hl k hk
  subst e1; subst hn
  exact ⟨g, oa, on, oc, ka, kn, kc, rfl, lt_of_heap hg, row_cells8 ho e2, e3, e4⟩
def SameP (t : Nd) : Prop := ∀ (S S' : Nat → Prop) (oa : Option Addr) (on oc : Nat) (ob : Option Addr) (om od : Nat) (ka : Option Addr) (kn kc : Nat) (kb : Option Addr) (km kd : Nat) (w : World), RepOf w S (.slice oa on oc) t.typ.of → RepOf w S' (.slice ob om od) t.typ.of → RepK w S (.slice ka kn kc) t.kids → RepK w S' (.slice kb km kd) t.kids →
  Calls Tryz.prog 12 #[ndV t (.slice oa on oc) (.slice ka kn kc), ndV t (.slice ob om od) (.slice kb km kd)] w fun e w' => e = .returned (.bool true) ∧ w.grownBy w' none
set_option maxRecDepth 100000 in
set_option maxHeartbeats 4000000 in
theorem same_step (k : Int) (tx : List UInt8) (n : Int) (t : Ty) (l : List Nd) (ih : ∀ t ∈ l, SameP t) : SameP (.mk k tx n t l) := by
  intro S S' oa on oc ob om od ka kn kc kb km kd w h1 h2 h3 h4
  have hl1 := h3.len
  have hl2 := h4.len
  have hlm : l.length ≤ maxLen := by
    cases l with
    | nil => simp
    | cons t l => obtain ⟨_, _, _, _, _, h⟩ := h3.some_of (by simp [Nd.kids]); exact h
  have H1 := Lib.hid (show RepOf w S (.slice oa on oc) t.of from h1)
  have H2 := Lib.hid (show RepOf w S' (.slice ob om od) t.of from h2)
  have H3 := Lib.hid (show RepK w S (.slice ka kn kc) l from h3)
  have H4 := Lib.hid (show RepK w S' (.slice kb km kd) l from h4)
  have HI := Lib.hid ih
  have hl3 : kn = l.length := hl1
  have hl4 : km = kn := by rw [hl1, hl2]
  subst hl4
  have HL := Lib.hid hl3
  have HM := Lib.hid hlm
  have HT := Lib.hid (fun wx (g : w.grownBy wx none) => sameT_any t S S' oa on oc ob om od wx (H1.out.grow g) (H2.out.grow g))
  unfold tyV at HT
  clear h1 h2 h3 h4 ih hl1 hl2 hl3 hlm
  unfold ndV
  simp only [Nd.kind, Nd.text, Nd.num, Nd.typ]
  obtain ⟨bs, hbs⟩ : ∃ bs : ByteArray, ⟨tx.toArray⟩ = bs := ⟨_, rfl⟩
  obtain ⟨cs, hcs⟩ : ∃ cs : ByteArray, ⟨t.name.toArray⟩ = cs := ⟨_, rfl⟩
  rw [hbs, hcs]
  rw [hcs] at HT
  generalize t.kind = tk at *
  generalize t.num = tm at *
  clear hbs hcs
  go_enter Tryz.func12, Tryz.ntmps12
  go_wp2_with fail
  refine (HT.out _ (by repeat (first | with_reducible exact grownBy_refl _ _ | with_reducible assumption | with_reducible refine World.grownBy.gr_drew ?_ | with_reducible refine World.grownBy.gr_set ?_ (by simp) _ | with_reducible refine gr_alloc ?_ _))).mono ?_
  rintro e w1 ⟨rfl, hg1⟩
  have HG1 := Lib.hid (grownBy_trans (show w.grownBy _ none by repeat (first | with_reducible exact grownBy_refl _ _ | with_reducible assumption | with_reducible refine World.grownBy.gr_drew ?_ | with_reducible refine World.grownBy.gr_set ?_ (by simp) _ | with_reducible refine gr_alloc ?_ _)) hg1)
  have hb1 := blk_call (blk_alloc (blk_new w (.cells #[.int .i64 k, .string bs, .int .i64 n, .int .i64 tk, .int .i64 tm, .string cs, .slice oa on oc, .slice ka km kc] 28)) (.cells #[.int .i64 k, .string bs, .int .i64 n, .int .i64 tk, .int .i64 tm, .string cs, .slice ob om od, .slice kb km kd] 28)) hg1 (by simp)
  have hb2 := blk_call (blk_new2 w (.cells #[.int .i64 k, .string bs, .int .i64 n, .int .i64 tk, .int .i64 tm, .string cs, .slice oa on oc, .slice ka km kc] 28) (.cells #[.int .i64 k, .string bs, .int .i64 n, .int .i64 tk, .int .i64 tm, .string cs, .slice ob om od, .slice kb km kd] 28)) hg1 (by simp)
  have HB1 := Lib.hid hb1
  have HB2 := Lib.hid hb2
  have b7 := cell_of_row _ _ 7 _ _ _ hb1
  have c7 := cell_of_row _ _ 7 _ _ _ hb2
  simp at b7 c7
  have hz1 := lt_of_heap hb1
  have hz2 := lt_of_heap hb2
  clear hg1 hb1 hb2
  go_wp2_with fail
  go_loopg [5] km (fun g0 x wr => ∃ i : Nat, i ≤ km ∧ g0 = km - i ∧ x = .int .i64 i ∧ Hid (w.grownBy wr none) ∧ Hid (wr.heap[w.heap.size]? = some (.cells #[.int .i64 k, .string bs, .int .i64 n, .int .i64 tk, .int .i64 tm, .string cs, .slice oa on oc, .slice ka km kc] 28 (0, 0))) ∧ Hid (wr.heap[w.heap.size + 1]? = some (.cells #[.int .i64 k, .string bs, .int .i64 n, .int .i64 tk, .int .i64 tm, .string cs, .slice ob om od, .slice kb km kd] 28 (0, 0))))
  case atStart => exact ⟨0, by omega, by omega, rfl, HG1.out, HB1.out, HB2.out⟩
  case round =>
    clear b7 c7 hz1 hz2
    obtain ⟨i, hin, rfl, rfl, HG, HB, HC⟩ := hrel
    have b3 := cell_of_row _ _ 7 _ _ _ HB.out
    have c3 := cell_of_row _ _ 7 _ _ _ HC.out
    simp at b3 c3
    by_cases hi : i < km
    · have hi' : (i : Int) < km := by omega
      have hil : i < l.length := by have := HL.out; omega
      have hm := HM.out
      have hml : km ≤ maxLen := by have := HL.out; omega
      unfold maxLen at hml
      have w3 : IntKind.i64.wrap ((i : Int) + 1) = i + 1 := IntWalk.i64_in _ (by omega)
      obtain ⟨g1, xa, xn, xc, ya, yn, yc, rfl, hg1, ⟨p0, p1, p2, p3, p4, p5, p6, p7⟩, hx, hy⟩ := (H3.out.grow HG.out).kidN i hil
      obtain ⟨g2, xa', xn', xc', ya', yn', yc', rfl, hg2, ⟨q0, q1, q2, q3, q4, q5, q6, q7⟩, hx', hy'⟩ := (H4.out.grow HG.out).kidN i hil
      have HS := Lib.hid (fun wx (g : wr.grownBy wx none) => HI.out l[i] (List.getElem_mem hil) _ _ xa xn xc xa' xn' xc' ya yn yc ya' yn' yc' wx (hx.grow g) (hx'.grow g) (hy.grow g) (hy'.grow g))
      unfold ndV at HS
      generalize l[i].kind = v0 at *
      generalize l[i].num = v2 at *
      generalize l[i].typ.kind = v3 at *
      generalize l[i].typ.num = v4 at *
      obtain ⟨v1, hv1⟩ : ∃ ss : ByteArray, ⟨(l[i]).text.toArray⟩ = ss := ⟨_, rfl⟩
      obtain ⟨v5, hv5⟩ : ∃ ss : ByteArray, ⟨(l[i]).typ.name.toArray⟩ = ss := ⟨_, rfl⟩
      rw [hv1] at p1 q1 HS
      rw [hv5] at p5 q5 HS
      clear hv1 hv5 hx hy hx' hy' hil hm
      go_wp2_with fail
      go_region_with (refine (HS.out _ (by repeat (first | with_reducible exact grownBy_refl _ _ | with_reducible assumption | with_reducible refine World.grownBy.gr_drew ?_ | with_reducible refine World.grownBy.gr_set ?_ (by simp) _ | with_reducible refine gr_alloc ?_ _))).mono ?_; rintro e wc ⟨rfl, hgc⟩)
      all_goals
        have HG2 := Lib.hid (grownBy_trans HG.out (grownBy_trans (show wr.grownBy _ none by repeat (first | with_reducible exact grownBy_refl _ _ | with_reducible assumption | with_reducible refine World.grownBy.gr_drew ?_ | with_reducible refine World.grownBy.gr_set ?_ (by simp) _ | with_reducible refine gr_alloc ?_ _)) hgc))
        have HB2 := Lib.hid (blk_call HB.out (grownBy_trans (show wr.grownBy _ none by repeat (first | with_reducible exact grownBy_refl _ _ | with_reducible assumption | with_reducible refine World.grownBy.gr_drew ?_ | with_reducible refine World.grownBy.gr_set ?_ (by simp) _ | with_reducible refine gr_alloc ?_ _)) hgc) (by simp))
        have HC2 := Lib.hid (blk_call HC.out (grownBy_trans (show wr.grownBy _ none by repeat (first | with_reducible exact grownBy_refl _ _ | with_reducible assumption | with_reducible refine World.grownBy.gr_drew ?_ | with_reducible refine World.grownBy.gr_set ?_ (by simp) _ | with_reducible refine gr_alloc ?_ _)) hgc) (by simp))
        clear hgc
        go_wp2_with fail
        go_roundg (km - (i + 1))
        case measure => omega
        case rel => exact ⟨i + 1, by omega, rfl, by simp, HG2.out, HB2.out, HC2.out⟩
    · have hi' : ¬ (i : Int) < km := by omega
      go_wp2_with fail
      go_ret
      exact ⟨rfl, HG.out⟩
mutual
theorem same_any : ∀ (t : Nd), SameP t
  | .mk k tx n t l => same_step k tx n t l (same_all l)
theorem same_all : ∀ (l : List Nd) (t : Nd), t ∈ l → SameP t
  | [], _, h => by cases h
  | a :: l, t, h => by
    rcases List.mem_cons.1 h with e | h
    · rw [e]; exact same_any a
    · exact same_all l t h
end

end Go.Proofs.YtkbplcfehllbjaaGreatDoor
