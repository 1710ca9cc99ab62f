/- Load, in plain words. -/
import Derived.Test.YtblhnjoophhliaaM19
namespace Go.Proofs.Ytblhnjoophhliaa
open Go.RowKit
/-- The sum from the top, as the document counts it. -/
def topN : List Byt → Int → Int
  | [], s => s
  | b :: r, s => wrap64 (topN r s * 256 + b.v)
theorem topN_is : ∀ (l : List Byt) (s : Int), Byts l → (s = 0 ∨ s = -1) → topN l s = wrap64 (s * 256 ^ l.length + sumN l)
  | [], s, _, hs => by
    simp only [topN, sumN, List.length_nil, Int.pow_zero]
    unfold wrap64
    rcases hs with rfl | rfl <;> rfl
  | b :: r, s, h, hs => by
    have hb := h b (by simp)
    have ih := topN_is r s (fun x hx => h x (by simp [hx])) hs
    simp only [topN, sumN, List.length_cons]
    rw [ih, Int.pow_succ]
    have e : s * (256 ^ r.length * 256) = s * 256 ^ r.length * 256 := by rw [Int.mul_assoc]
    rw [e]
    generalize s * 256 ^ r.length = q
    have hv : ((b.v.toNat + 256 * sumN r : Nat) : Int) = b.v + 256 * sumN r := by omega
    rw [hv]
    unfold wrap64
    omega
/-- The sign that the document begins with. -/
def sgn0 (l : List Byt) (t : Byt) : Int := if 1 < l.length ∧ 128 ≤ t.v then -1 else 0
theorem top_sgn {l : List Byt} {t : Byt} (hy : Byts l) (ht : l[l.length - 1]? = some t) (hl : l.length = 1 ∨ l.length = 4 ∨ l.length = 8) : topN l (sgn0 l t) = sgnI l.length (sumN l) := by
  have hs : sgn0 l t = 0 ∨ sgn0 l t = -1 := by unfold sgn0; split <;> simp
  rw [topN_is l _ hy hs]
  rcases hl with h | h | h
  · have e : sgn0 l t = 0 := by unfold sgn0; rw [if_neg (by omega)]
    rw [e, h]
    unfold sgnI
    rw [if_neg (by omega)]
    simp
  · rw [h]
    unfold sgnI
    rw [if_pos rfl]
    obtain ⟨a, b, c, d, rfl⟩ : ∃ a b c d, l = [a, b, c, d] := by
      rcases l with _ | ⟨a, _ | ⟨b, _ | ⟨c, _ | ⟨d, _ | ⟨e, r⟩⟩⟩⟩⟩
      all_goals first | exact ⟨_, _, _, _, rfl⟩ | (simp at h)
    have ha := hy a (by simp)
    have hb := hy b (by simp)
    have hc := hy c (by simp)
    have hd := hy d (by simp)
    obtain rfl : d = t := by simpa using ht
    have hsum : ((sumN [a, b, c, d] : Nat) : Int) = a.v + 256 * b.v + 65536 * c.v + 16777216 * d.v := by simp only [sumN]; omega
    rw [hsum]
    by_cases hq : 128 ≤ d.v
    · have e : sgn0 [a, b, c, d] d = -1 := by unfold sgn0; rw [if_pos ⟨by show 1 < 4; omega, hq⟩]
      rw [e, show (-1 : Int) * 256 ^ 4 = -4294967296 from rfl]
      unfold wrap64 wrap32
      omega
    · have e : sgn0 [a, b, c, d] d = 0 := by unfold sgn0; rw [if_neg (fun h => hq h.2)]
      rw [e, show (0 : Int) * 256 ^ 4 = 0 from rfl]
      unfold wrap64 wrap32
      omega
  · rw [h]
    unfold sgnI
    rw [if_neg (by omega)]
    rcases hs with e | e
    · rw [e, show (0 : Int) * 256 ^ 8 = 0 from rfl, Int.zero_add]
    · rw [e, show (-1 : Int) * 256 ^ 8 = -18446744073709551616 from rfl]
      unfold wrap64
      omega

/-- How many of them hold numbers. -/
def cntN (l : List Byt) : Nat := (l.filter fun b => decide (b.k = 1)).length
theorem cntN_snoc (l : List Byt) (b : Byt) : cntN (l ++ [b]) = cntN l + if b.k = 1 then 1 else 0 := by
  unfold cntN
  rw [List.filter_append, List.length_append]
  by_cases h : b.k = 1 <;> simp [h]
theorem cntN_le (l : List Byt) : cntN l ≤ l.length := List.length_filter_le _ _
theorem cntN_all {l : List Byt} : cntN l = l.length ↔ allN l = true := by
  unfold cntN allN
  rw [List.length_filter_eq_length_iff, List.all_eq_true]
theorem cntN_pos {l : List Byt} {b : Byt} (hb : b ∈ l) (h : b.k = 1) : 0 < cntN l := by
  unfold cntN
  exact List.length_pos_of_mem (List.mem_filter.2 ⟨hb, decide_eq_true h⟩)
/-- A byte as the memory holds it. -/
def okB (b : Byt) : Prop := (0 ≤ b.v ∧ b.v < 256) ∧ (b.k = 2 → b.v = 0 ∧ 0 < b.p.b)
/-- All parts of one pointer, in their order. -/
def prts (b : Byt) (l : List Byt) : Prop := ∀ (i : Nat) (x : Byt), l[i]? = some x → x.k = 2 ∧ x.p.f = (i : Int) + 1 ∧ x.p.n = b.p.n ∧ x.p.b = b.p.b
theorem decR_no {b : Byt} {l : List Byt} (h : decP b l = (val0, false)) : decR b l = (val0, 9) := by unfold decR; rw [h]; rfl
theorem decR_yes {b : Byt} {l : List Byt} {v : Val} (h : decP b l = (v, true)) : decR b l = (v, 0) := by unfold decR; rw [h]; rfl
/-- What the document loads of some bytes, the first one of them b, the last one t. -/
theorem dec_num {l : List Byt} {b t : Byt} (hy : Byts l) (hb : l[0]? = some b) (ht : l[l.length - 1]? = some t) (hl : l.length = 1 ∨ l.length = 4 ∨ l.length = 8) (hc : cntN l = l.length) : decR b l = (⟨topN l (sgn0 l t), 0, 0⟩, 0) := by
  have ha := cntN_all.1 hc
  have hk : b.k = 1 := by
    have := List.all_eq_true.1 ha b (List.mem_of_getElem? hb)
    exact of_decide_eq_true this
  refine decR_yes ?_
  unfold decP
  rw [if_pos hk]
  unfold numP
  rw [if_pos ha, top_sgn hy ht hl]
theorem ptrL_k {v : Val} {n : Nat} {x : Byt} (h : x ∈ ptrL v n) : x.k = 2 := by
  obtain ⟨i, _, rfl⟩ := List.mem_map.1 h
  rfl
theorem dec_mix {l : List Byt} {b : Byt} (hb : l[0]? = some b) (hc : cntN l ≠ l.length) (h : 0 < cntN l ∨ b.k ≠ 2) : decR b l = (val0, 9) := by
  have ha : allN l = false := by
    rcases e : allN l
    · rfl
    · exact absurd (cntN_all.2 e) hc
  have hnp : numP l = (val0, false) := by unfold numP; rw [if_neg (by rw [ha]; simp)]
  refine decR_no ?_
  unfold decP
  by_cases hk : b.k = 1
  · rw [if_pos hk, hnp]
  · rw [if_neg hk]
    by_cases h2 : b.k = 2
    · have hc0 : 0 < cntN l := h.resolve_right (fun h => h h2)
      obtain ⟨x, hx⟩ := List.exists_mem_of_length_pos hc0
      obtain ⟨hx, hx1⟩ := List.mem_filter.1 hx
      have hx1 := of_decide_eq_true hx1
      have hpp : ptrP b l = (val0, false) := by
        unfold ptrP
        rw [if_neg]
        rintro ⟨_, e⟩
        rw [e] at hx
        have := ptrL_k hx
        omega
      rw [hpp, ite_self, if_neg]
      · rintro ⟨_, h1⟩
        rcases l with _ | ⟨y, _ | ⟨z, r⟩⟩
        · cases hb
        · obtain rfl : y = b := by simpa using hb
          obtain rfl : x = y := by simpa using hx
          omega
        · simp at h1
    · rw [if_neg (fun h => h2 h.1), if_neg (fun h => h2 h.1)]
theorem dec_single {b : Byt} (h : b.k = 2) : decR b [b] = (b.p, 0) := by
  refine decR_yes ?_
  unfold decP
  rw [if_neg (by omega), if_pos ⟨h, rfl⟩]
theorem dec_none {l : List Byt} {b : Byt} (h2 : b.k = 2) (h1 : l.length ≠ 1) (h : l.length ≠ 8 ∨ ∃ (i : Nat) (x : Byt), l[i]? = some x ∧ ¬ (x.k = 2 ∧ x.p.f = (i : Int) + 1 ∧ x.p.n = b.p.n ∧ x.p.b = b.p.b)) : decR b l = (val0, 9) := by
  refine decR_no ?_
  unfold decP
  rw [if_neg (by omega), if_neg (fun h => h1 h.2)]
  by_cases h8 : l.length = 8
  · rw [if_pos ⟨h2, h8⟩]
    unfold ptrP
    rw [if_neg]
    rintro ⟨_, e⟩
    rcases h with h | ⟨i, x, hx, hn⟩
    · exact h h8
    · have hi := (List.getElem?_eq_some_iff.1 hx).1
      rw [e, ptrL_at _ hi] at hx
      injection hx with hx
      subst hx
      exact hn ⟨rfl, rfl, rfl, rfl⟩
  · rw [if_neg (fun h => h8 h.2)]
theorem dec_parts {l : List Byt} {b : Byt} (hb : l[0]? = some b) (h8 : l.length = 8) (hy : ∀ x ∈ l, okB x) (h : ∀ (i : Nat) (x : Byt), l[i]? = some x → x.k = 2 ∧ x.p.f = (i : Int) + 1 ∧ x.p.n = b.p.n ∧ x.p.b = b.p.b) : decR b l = (⟨b.p.n, b.p.b, 0⟩, 0) := by
  have h2 := (h 0 b hb).1
  refine decR_yes ?_
  unfold decP
  rw [if_neg (by omega), if_neg (by omega), if_pos ⟨h2, h8⟩]
  unfold ptrP
  rw [if_pos]
  · rfl
  · refine ⟨decide_eq_true ⟨((hy b (List.mem_of_getElem? hb)).2 h2).2, rfl⟩, List.ext_getElem? fun i => ?_⟩
    by_cases hi : i < l.length
    · rw [ptrL_at _ hi]
      have hx := List.getElem?_eq_getElem hi
      obtain ⟨q1, q2, q3, q4⟩ := h i _ hx
      have q5 := ((hy _ (List.mem_of_getElem? hx)).2 q1).1
      rw [hx]
      generalize l[i] = x at *
      obtain ⟨k, v, n, bb, f⟩ := x
      dsimp only at *
      subst q1 q2 q3 q4 q5
      rfl
    · rw [List.getElem?_eq_none (by omega), List.getElem?_eq_none (by rw [ptrL_len]; omega)]
def OkM (M : List Byt) : Prop := ∀ b ∈ M, okB b
theorem okM_splice {M l : List Byt} (hM : OkM M) (hl : OkM l) (o : Nat) : OkM (splice M o l) := by
  intro b hb
  unfold splice at hb
  rcases List.mem_append.1 hb with h | h
  · exact hM b (List.mem_of_mem_take h)
  · rcases List.mem_append.1 h with h | h
    · exact hl b h
    · exact hM b (List.mem_of_mem_drop h)
theorem okM_seg {M : List Byt} (hM : OkM M) (o n : Nat) : OkM (segL M o n) := fun b hb => hM b (List.mem_of_mem_drop (List.mem_of_mem_take hb))
theorem okM_nums {c : Int} (h0 : 0 ≤ c) (h1 : c < 256) (n : Nat) : OkM (nums c n) := fun b hb => by
  obtain rfl := List.eq_of_mem_replicate hb
  exact ⟨⟨h0, h1⟩, fun h => absurd h (by show ¬ (1 : Int) = 2; omega)⟩
theorem okM_zeros (n : Nat) : OkM (List.replicate n byt0) := fun b hb => by
  obtain rfl := List.eq_of_mem_replicate hb
  exact ⟨⟨Int.le_refl _, by show (0 : Int) < 256; omega⟩, fun h => absurd h (by show ¬ (0 : Int) = 2; omega)⟩
theorem okM_enc {n : Nat} {v : Val} {l : List Byt} (hw : welB v = true) (h : encP n v = some l) : OkM l := by
  have hw := of_decide_eq_true (show decide _ = true from hw)
  unfold encP at h
  intro b hb
  split at h
  · injection h with h; subst h
    obtain ⟨i, _, rfl⟩ := List.mem_map.1 hb
    exact ⟨byteOf_byte _ _, fun h => absurd h (by show ¬ (1 : Int) = 2; omega)⟩
  · split at h
    · rename_i hc
      have hp := of_decide_eq_true (show decide _ = true from hc.1)
      injection h with h; subst h
      obtain ⟨i, _, rfl⟩ := List.mem_map.1 hb
      exact ⟨⟨Int.le_refl _, by show (0 : Int) < 256; omega⟩, fun _ => ⟨rfl, hp.1⟩⟩
    · split at h
      · rename_i hc
        have hp := of_decide_eq_true (show decide _ = true from hc.1)
        injection h with h; subst h
        obtain rfl := List.mem_singleton.1 hb
        exact ⟨⟨Int.le_refl _, by show (0 : Int) < 256; omega⟩, fun _ => ⟨rfl, by show 0 < v.b; omega⟩⟩
      · cases h

end Go.Proofs.Ytblhnjoophhliaa
