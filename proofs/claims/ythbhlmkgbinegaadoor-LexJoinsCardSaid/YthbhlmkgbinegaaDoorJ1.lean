/- LexJoins: the walk. -/
import Derived.Test.YthbhlmkgbinegaaDoorB1
import Derived.Laws.AppendOwnNone
namespace Go.Proofs.YthbhlmkgbinegaaDoor
open Go.RowKit
/-- a slice of tokens: nil, or a row whose cells are known. -/
def Row2 (w : World) (v : Value) (l : List T4) : Prop :=
  (v = .slice none 0 0 ∧ l = []) ∨ ∃ g cap, v = .slice (some ⟨g, 0, none⟩) l.length cap ∧ g < w.heap.size ∧ ∀ j, j < l.length * 4 → w.cell? ⟨g, j, none⟩ = (cellsOf l)[j]?
theorem Row2.below {w w' : World} {v : Value} {l : List T4} (h : Row2 w v l) (b : Below w.heap.size w w') : Row2 w' v l := by
  rcases h with h | ⟨g, cap, hv, hg, hc⟩
  · exact .inl h
  · exact .inr ⟨g, cap, hv, Nat.lt_of_lt_of_le hg b.size, fun j hj => by rw [b.cell (p := ⟨g, j, none⟩) hg]; exact hc j hj⟩
theorem Row2.row {w : World} {v : Value} {l : List T4} (h : Row2 w v l) : Row w v l := by
  rcases h with ⟨rfl, rfl⟩ | ⟨g, cap, hv, hg, hc⟩
  · exact row_nil w
  · exact ⟨_, cap, hv, fun _ => ⟨g, rfl, hg, hc⟩⟩
theorem row2_of {w : World} {base : Nat} {v : Value} {l : List T4} (h : w.ownsRow base 34 4 v l.length (cellsOf l)) : Row2 w v l := by
  obtain ⟨h1, h2⟩ := h
  rcases h2 with ⟨hv, h2⟩ | ⟨g, cap, cur, hv, hg, hh, h3, h4, h5, h6⟩
  · exact .inl ⟨hv, List.eq_nil_of_length_eq_zero h2⟩
  · refine .inr ⟨g, cap, hv, ?_, fun j hj => ?_⟩
    · rcases Nat.lt_or_ge g w.heap.size with h | h
      · exact h
      · rw [Array.getElem?_eq_none h] at hh; cases hh
    · rw [cell_of_row w g j _ _ _ hh, ← h6, List.getElem?_take_of_lt (by omega)]
      simp
theorem tokens_row2 (s : ByteArray) (l : List T4) (w : World) (hv : Vars w) (h : tokensR s.data.toList = .ok l) :
    Calls Tryd.prog 12 #[.string s] w fun e w' => ∃ v, e = .returned (.tuple #[v, .int .i64 0, .int .i64 0]) ∧ Row2 w' v l ∧ Below w.heap.size w w' :=
  (tokens_any s w hv).mono fun e w' hp => by
    rw [h] at hp
    obtain ⟨hB, v, he, ho⟩ := hp
    exact ⟨v, he, row2_of ho, hB⟩
theorem tokens_end (s : ByteArray) (w : World) (hv : Vars w) :
    Calls Tryd.prog 12 #[.string s] w fun e w' => ∃ v p q, e = .returned (.tuple #[v, .int .i64 p, .int .i64 q]) ∧ Below w.heap.size w w' :=
  (tokens_any s w hv).mono fun e w' hp => by
    obtain ⟨hB, hr⟩ := hp
    cases h : tokensR s.data.toList with
    | ok l => rw [h] at hr; obtain ⟨v, he, _⟩ := hr; exact ⟨v, 0, 0, he, hB⟩
    | bad p er => rw [h] at hr; exact ⟨_, p, er, hr, hB⟩
theorem cellsOf_len (l : List T4) : (cellsOf l).length = l.length * 4 := by
  induction l with
  | nil => rfl
  | cons t l ih => have : cellsOf (t :: l) = cells4 t ++ cellsOf l := by simp [cellsOf]
                   rw [this, List.length_append, ih]; simp [cells4]; omega
theorem cellsOf_one (l : List T4) : ∀ u ∈ cellsOf l, u.oneCell' = true := by
  intro u hu
  obtain ⟨t, _, hu⟩ := List.mem_flatMap.1 hu
  simp [cells4] at hu
  rcases hu with rfl | rfl | rfl | rfl <;> rfl
/-- append(v, x...) of tokens, x nil or a row. -/
theorem append_toks {w : World} {ops : Array Oper} {rest : List Oper} {o : Oper} {a : Act} {Q : Exit → Act → World → Prop} (hgd : o.guard = none) (s x : Operand)
    (ho : o.op = .call { callee := .builtin .append, args := #[s, x], argTypes := #[23, 23] }) (base : Nat) (v u : Value) (n : Nat) (xs : List Value) (l : List T4) (hs : a.eval s = v) (hown : w.ownsRow base 34 4 v n xs)
    (hu : a.eval x = u) (hr : Row2 w u l) (hn : n ≤ 20000) (hl : l.length ≤ 20000) (hbase : base ≤ w.heap.size)
    (h : ∀ v' w', w'.ownsRow base 34 4 v' (n + l.length) (xs ++ cellsOf l) → w.grownBy w' v.ownBlock → wpList Tryd.prog ops Q rest (a.put o.dst v') w') : wpList Tryd.prog ops Q (o :: rest) a w := by
  obtain ⟨i0, hi, hz0, hz1, hz2⟩ := info_parts info34
  rcases hr with ⟨rfl, rfl⟩ | ⟨g, cap, rfl, hg, hc⟩
  · refine wpList_append_own_none hgd s x 23 ho base 34 i0 4 Tryd.underlying23 hi v n xs hs hown hu ?_
    exact h v w (by simpa [cellsOf] using hown) ⟨rfl, rfl, rfl, Nat.le_refl _, fun _ _ _ => rfl⟩
  · refine wpList_append_own _ hgd s x 23 ho base 34 i0 _ 4 40 Tryd.underlying23 hi hz0 hz1 hz2 rfl (by decide) v n xs hs hown ⟨g, 0, none⟩ l.length cap (cellsOf l) hu (cellsOf_len l) ?_ (cellsOf_one l) ?_ ?_ hbase (fun v' w' h1 h2 _ => h v' w' h1 h2)
    · intro j q hj
      have hlt : j < (cellsOf l).length := (List.getElem?_eq_some_iff.1 hj).1
      rw [cellsOf_len] at hlt
      have hadd : (⟨g, 0, none⟩ : Addr).add j = ⟨g, j, none⟩ := by unfold Addr.add; split <;> simp_all
      rw [hadd, hc j hlt]; exact hj
    · unfold maxLen; omega
    · omega
theorem joins_lex (L X : List UInt8) (ts us : List T4) (hs : L.length + X.length < 20000) (h1 : tokensR L = .ok ts) (h2 : tokensR X = .ok us) :
    tokensR (L ++ 10 :: X) = .ok (ts ++ us.map (T4.shift (L.length + 1))) := by
  have e1 := (tokens_ok_facts h1).2
  have e2 := (tokens_ok_facts h2).2
  unfold tokensR
  rw [if_neg (by simp; omega), (lex_nl X _ L 0 (Nat.le_refl _)).1 ts e1]
  have := lex_shift _ X 0 (L.length + 1) (Nat.le_refl _)
  rw [Nat.zero_add] at this
  rw [Nat.zero_add, this, e2]
  rfl
set_option maxRecDepth 100000 in
set_option maxHeartbeats 4000000 in
theorem joins_ok (s t : ByteArray) (w : World) (hv : Vars w) (hs : s.size + t.size < 20000) (ts us : List T4) (h1 : tokensR s.data.toList = .ok ts) (h2 : tokensR t.data.toList = .ok us) :
    Calls Tryd.prog 7 #[.string s, .string t] w fun e w' => e = .returned (.bool true) ∧ Below w.heap.size w w' := by
  have hJ : tokensR (s ++ ⟨#[10]⟩ ++ t : ByteArray).data.toList = .ok (ts ++ us.map (T4.shift (s.data.toList.length + 1))) := by
    have := joins_lex s.data.toList t.data.toList ts us (by simpa using hs) h1 h2
    rw [← this]
    rw [ByteArray.data_append, Array.toList_append, ByteArray.data_append, Array.toList_append]
    simp
  have c1 : ts.length ≤ s.size := by
    obtain ⟨hsz, hlex⟩ := tokens_ok_facts h1
    have hR := rises_of s.data.toList ts 0 (by omega) (by simpa using hlex)
    have := rises_count _ ts 0 (by omega) hR
    simpa using this
  have c2 : us.length ≤ t.size := by
    obtain ⟨hsz, hlex⟩ := tokens_ok_facts h2
    have hR := rises_of t.data.toList us 0 (by omega) (by simpa using hlex)
    have := rises_count _ us 0 (by omega) hR
    simpa using this
  have HV := Lib.hid hv
  have HT1 := Lib.hid h1
  have HT2 := Lib.hid h2
  have HT3 := Lib.hid hJ
  have C1 := Lib.hid c1
  have C2 := Lib.hid c2
  clear hv h1 h2 hJ c1 c2
  go_enter Tryd.func7, Tryd.ntmps7
  go_wp2_with fail
  refine (shown_any _ HV.out).mono ?_
  rintro e w1 ⟨rfl, hb1⟩
  have HB1 := Lib.hid hb1
  have HV1 := Lib.hid (HV.out.below hb1 HV.out.size)
  clear hb1
  go_wp2_with fail
  refine (tokens_row2 _ ts _ HV1.out HT1.out).mono ?_
  rintro e w2 ⟨v1, rfl, r1, hb2⟩
  have HB2 := Lib.hid (HB1.out.trans (hb2.mono HB1.out.size))
  have HV2 := Lib.hid (HV1.out.below hb2 HV1.out.size)
  have R1 := Lib.hid r1
  clear hb2 r1
  go_wp2_with fail
  refine (tokens_row2 _ us _ HV2.out HT2.out).mono ?_
  rintro e w3 ⟨v2, rfl, r2, hb3⟩
  have HB3 := Lib.hid (HB2.out.trans (hb3.mono HB2.out.size))
  have HV3 := Lib.hid (HV2.out.below hb3 HV2.out.size)
  have R1' := Lib.hid (R1.out.below hb3)
  have R2 := Lib.hid r2
  clear hb3 r2 R1
  go_wp2_with fail
  refine (tokens_row2 _ _ _ HV3.out HT3.out).mono ?_
  rintro e w4 ⟨v3, rfl, r3, hb4⟩
  have HB4 := Lib.hid (HB3.out.trans (hb4.mono HB3.out.size))
  have R1 := Lib.hid (R1'.out.below hb4)
  have R2' := Lib.hid (R2.out.below hb4)
  have R3 := Lib.hid r3
  clear hb4 r3 R2
  go_upto_region 7 with (fail)
  go_wp2_with (at_builtin; refine append_toks rfl (.tmp 54) (.tmp 55) rfl w4.heap.size _ v1 0 [] ts rfl ?_ rfl (R1.out.below (below_new _)) (by omega) (by have := C1.out; omega) (by simp) ?_)
  · exact World.ownsRow_lit w4 #[] 0 (Nat.le_refl _) (by unfold maxLen; omega) rfl
  intro v5 w5 ho5 hg5
  have hb5 : Below w4.heap.size w4 w5 := (below_new (w := w4) (.cells #[] 34)).grown hg5 (by simp) (fun q hq => by cases hq; exact Nat.le_refl _)
  have R2 := Lib.hid (R2'.out.below hb5)
  have HB5 := Lib.hid hb5
  have HO5 := Lib.hid ho5
  have hz5 := hb5.size
  clear ho5 hg5 hb5
  go_wp2_with (at_builtin; refine append_toks rfl (.tmp 56) (.tmp 57) rfl w4.heap.size v5 v2 ts.length (cellsOf ts) us rfl HO5.out rfl R2.out (by have := C1.out; omega) (by have := C2.out; omega) hz5 ?_)
  intro v6 w6 ho6 hg6
  have hb6 : Below w4.heap.size w4 w6 := HB5.out.grown hg6 hz5 (fun q hq => (HO5.out.lt q hq).1)
  have R3' := Lib.hid (R3.out.below hb6)
  have HB6 := Lib.hid hb6
  have R6 : Hid (Row2 w6 v6 (ts ++ us)) := by
    refine row2_of (base := w4.heap.size) ?_
    have e : cellsOf (ts ++ us) = cellsOf ts ++ cellsOf us := by simp [cellsOf]
    rw [e, List.length_append]
    exact ho6
  clear ho6 hg6 hb6 hz5
  go_wp2_with fail
  refine (same_no _ _ (ts ++ us.map (T4.shift (s.data.toList.length + 1))) (ts ++ us) _ R3'.out.row R6.out.row (by simp) (by have := C1.out; have := C2.out; simp; omega) (fun k hk hk2 => ?_)).mono ?_
  · by_cases h : k < ts.length
    · rw [List.getElem_append_left h, List.getElem_append_left h]; exact ⟨rfl, rfl, rfl, fun h => by cases h⟩
    · rw [List.getElem_append_right (by omega), List.getElem_append_right (by omega), List.getElem_map]; exact ⟨rfl, rfl, rfl, fun h => by cases h⟩
  rintro e w7 ⟨rfl, q2, rfl⟩
  go_wp2_with fail
  go_ret
  exact ⟨rfl, below_drewN (HB4.out.trans (HB6.out.mono HB4.out.size)) _⟩
set_option maxRecDepth 100000 in
set_option maxHeartbeats 4000000 in
theorem joins_long (s t : ByteArray) (w : World) (hv : Vars w) (hs : 20000 ≤ s.size + t.size) (ts us : List T4) (h1 : tokensR s.data.toList = .ok ts) (h2 : tokensR t.data.toList = .ok us) :
    Calls Tryd.prog 7 #[.string s, .string t] w fun e w' => e = .returned (.bool true) ∧ Below w.heap.size w w' := by
  have l1 : s.size ≤ 20000 := by simpa using (tokens_ok_facts h1).1
  have l2 : t.size ≤ 20000 := by simpa using (tokens_ok_facts h2).1
  have HV := Lib.hid hv
  have HT1 := Lib.hid h1
  have HT2 := Lib.hid h2
  clear hv h1 h2
  go_enter Tryd.func7, Tryd.ntmps7
  go_wp2_with fail
  refine (shown_any _ HV.out).mono ?_
  rintro e w1 ⟨rfl, hb1⟩
  have HB1 := Lib.hid hb1
  have HV1 := Lib.hid (HV.out.below hb1 HV.out.size)
  clear hb1
  go_wp2_with fail
  refine (tokens_row2 _ ts _ HV1.out HT1.out).mono ?_
  rintro e w2 ⟨v1, rfl, r1, hb2⟩
  have HB2 := Lib.hid (HB1.out.trans (hb2.mono HB1.out.size))
  have HV2 := Lib.hid (HV1.out.below hb2 HV1.out.size)
  clear hb2 r1
  go_wp2_with fail
  refine (tokens_row2 _ us _ HV2.out HT2.out).mono ?_
  rintro e w3 ⟨v2, rfl, r2, hb3⟩
  have HB3 := Lib.hid (HB2.out.trans (hb3.mono HB2.out.size))
  clear hb3 r2
  go_wp2_with fail
  go_ret
  exact ⟨rfl, HB3.out⟩
set_option maxRecDepth 100000 in
set_option maxHeartbeats 4000000 in
theorem joins_bad1 (s t : ByteArray) (w : World) (hv : Vars w) (p : Nat) (er : Int) (h1 : tokensR s.data.toList = .bad p er) :
    Calls Tryd.prog 7 #[.string s, .string t] w fun e w' => e = .returned (.bool true) ∧ Below w.heap.size w w' := by
  obtain ⟨_, hne⟩ := tokens_bad_facts h1
  have HV := Lib.hid hv
  have HT1 := Lib.hid h1
  clear hv h1
  go_enter Tryd.func7, Tryd.ntmps7
  go_wp2_with fail
  refine (shown_any _ HV.out).mono ?_
  rintro e w1 ⟨rfl, hb1⟩
  have HB1 := Lib.hid hb1
  have HV1 := Lib.hid (HV.out.below hb1 HV.out.size)
  clear hb1
  go_wp2_with fail
  refine (tokens_bad _ p er _ HV1.out HT1.out).mono ?_
  rintro e w2 ⟨rfl, hb2⟩
  have HB2 := Lib.hid (HB1.out.trans (hb2.mono HB1.out.size))
  have HV2 := Lib.hid (HV1.out.below hb2 HV1.out.size)
  clear hb2
  go_wp2_with fail
  refine (tokens_end t _ HV2.out).mono ?_
  rintro e w3 ⟨v2, p2, e2, rfl, hb3⟩
  have HB3 := Lib.hid (HB2.out.trans (hb3.mono HB2.out.size))
  clear hb3
  go_wp2_with fail
  go_ret
  exact ⟨rfl, HB3.out⟩
set_option maxRecDepth 100000 in
set_option maxHeartbeats 4000000 in
theorem joins_bad2 (s t : ByteArray) (w : World) (hv : Vars w) (ts : List T4) (h1 : tokensR s.data.toList = .ok ts) (p : Nat) (er : Int) (h2 : tokensR t.data.toList = .bad p er) :
    Calls Tryd.prog 7 #[.string s, .string t] w fun e w' => e = .returned (.bool true) ∧ Below w.heap.size w w' := by
  obtain ⟨_, hne⟩ := tokens_bad_facts h2
  have HV := Lib.hid hv
  have HT1 := Lib.hid h1
  have HT2 := Lib.hid h2
  clear hv h1 h2
  go_enter Tryd.func7, Tryd.ntmps7
  go_wp2_with fail
  refine (shown_any _ HV.out).mono ?_
  rintro e w1 ⟨rfl, hb1⟩
  have HB1 := Lib.hid hb1
  have HV1 := Lib.hid (HV.out.below hb1 HV.out.size)
  clear hb1
  go_wp2_with fail
  refine (tokens_row2 _ ts _ HV1.out HT1.out).mono ?_
  rintro e w2 ⟨v1, rfl, r1, hb2⟩
  have HB2 := Lib.hid (HB1.out.trans (hb2.mono HB1.out.size))
  have HV2 := Lib.hid (HV1.out.below hb2 HV1.out.size)
  clear hb2 r1
  go_wp2_with fail
  refine (tokens_bad _ p er _ HV2.out HT2.out).mono ?_
  rintro e w3 ⟨rfl, hb3⟩
  have HB3 := Lib.hid (HB2.out.trans (hb3.mono HB2.out.size))
  clear hb3
  go_wp2_with fail
  go_ret
  exact ⟨rfl, HB3.out⟩
theorem joins_walk (s t : ByteArray) (_hs1 : s.size ≤ maxLen) (_hs2 : t.size ≤ maxLen) (w : World) (hv : Vars w) :
    Calls Tryd.prog 7 #[.string s, .string t] w fun e w' => e = .returned (.bool true) ∧ Below w.heap.size w w' := by
  cases h1 : tokensR s.data.toList with
  | bad p e => exact joins_bad1 s t w hv p e h1
  | ok ts =>
    cases h2 : tokensR t.data.toList with
    | bad p e => exact joins_bad2 s t w hv ts h1 p e h2
    | ok us =>
      by_cases h : s.size + t.size < 20000
      · exact joins_ok s t w hv h ts us h1 h2
      · exact joins_long s t w hv (by omega) ts us h1 h2
end Go.Proofs.YthbhlmkgbinegaaDoor
