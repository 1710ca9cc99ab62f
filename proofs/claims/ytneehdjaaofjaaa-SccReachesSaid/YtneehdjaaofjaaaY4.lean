/- Sets in plain words: unions, what is taken away, and their sizes. -/
import Derived.Test.YtneehdjaaofjaaaY2
namespace Go.Proofs.Ytneehdjaaofjaaa
open Go.RowKit
/-- Is one of D new? -/
def newsI (E D : List Int) : Bool := D.any fun x => decide (inS x ∧ x ∉ E)
/-- The document's union: the numbers one by one, and whether one was new. -/
def unionD (E D : List Int) : List Int × Bool := D.foldl (fun p n => ((addI13 p.1 n).1, p.2 || (addI13 p.1 n).2)) (E, false)
theorem unionD_snoc (E D : List Int) (n : Int) : unionD E (D ++ [n]) = ((addI13 (unionD E D).1 n).1, (unionD E D).2 || (addI13 (unionD E D).1 n).2) := by
  unfold unionD
  rw [List.foldl_append]
  rfl
theorem addsI_nil (E : List Int) : addsI E [] = E := rfl
theorem addsI_cons (E : List Int) (n : Int) (r : List Int) : addsI E (n :: r) = addsI (addI13 E n).1 r := rfl
theorem unionD_go : ∀ (D E : List Int) (b : Bool), D.foldl (fun p n => ((addI13 p.1 n).1, p.2 || (addI13 p.1 n).2)) (E, b) = (addsI E D, b || newsI E D)
  | [], E, b => by simp [addsI, newsI]
  | n :: r, E, b => by
    rw [List.foldl_cons, unionD_go r, addsI_cons]
    congr 1
    rw [Bool.or_assoc]
    congr 1
    show ((addI13 E n).2 || newsI (addI13 E n).1 r) = (decide (inS n ∧ n ∉ E) || newsI E r)
    rw [addI13_new]
    by_cases h : inS n ∧ n ∉ E
    · rw [decide_eq_true h]; rfl
    · rw [decide_eq_false h, Bool.false_or, Bool.false_or]
      have : (addI13 E n).1 = E := by
        unfold addI13
        rw [if_neg fun hh => h ⟨⟨hh.1, hh.2.1⟩, hh.2.2⟩]
      rw [this]
theorem unionD_is (E D : List Int) : unionD E D = (addsI E D, newsI E D) := by
  unfold unionD
  rw [unionD_go, Bool.false_or]
def minusI (E D : List Int) : List Int := E.filter fun x => decide (x ∉ D)
theorem minusI_mem {E D : List Int} {x : Int} : x ∈ minusI E D ↔ x ∈ E ∧ x ∉ D := by simp [minusI]
theorem minusI_rise {E D : List Int} (h : RiseI E) : RiseI (minusI E D) := rise_filter h _
theorem minusI_nil (E : List Int) : minusI E [] = E := by unfold minusI; rw [List.filter_eq_self]; simp
theorem minusI_self (E : List Int) : minusI E E = [] := by unfold minusI; rw [List.filter_eq_nil_iff]; simp
theorem minusI_twice (E D : List Int) : minusI (minusI E D) D = minusI E D := by unfold minusI; rw [List.filter_filter]; simp
/-- A set's numbers: they rise, and may be in. -/
def SetOk (E : List Int) : Prop := RiseI E ∧ ∀ x ∈ E, inS x
theorem SetOk.nil : SetOk [] := ⟨List.Pairwise.nil, fun _ h => by cases h⟩
theorem SetOk.add {E : List Int} (h : SetOk E) (n : Int) : SetOk (addI13 E n).1 := ⟨addI13_rise h.1, fun x hx => (addI13_mem.1 hx).elim (h.2 x) fun ⟨e, hs⟩ => e ▸ hs⟩
theorem SetOk.adds {E D : List Int} (h : SetOk E) : SetOk (addsI E D) := ⟨addsI_rise h.1, fun x hx => (addsI_mem.1 hx).elim (h.2 x) fun e => e.2⟩
theorem SetOk.minus {E D : List Int} (h : SetOk E) : SetOk (minusI E D) := ⟨minusI_rise h.1, fun x hx => h.2 x (minusI_mem.1 hx).1⟩
theorem SetOk.ext {E D : List Int} (h : SetOk E) (k : SetOk D) (e : ∀ x, x ∈ E ↔ x ∈ D) : E = D := rise_ext h.1 k.1 e
theorem addI13_len_le (E : List Int) (n : Int) : (addI13 E n).1.length ≤ E.length + 1 := by
  unfold addI13
  split
  · rw [insI_len]; exact Nat.le_refl _
  · exact Nat.le_succ _
theorem addsI_len_le : ∀ (D E : List Int), (addsI E D).length ≤ E.length + D.length
  | [], E => by simp [addsI]
  | n :: r, E => by
    rw [addsI_cons, List.length_cons]
    have := addsI_len_le r (addI13 E n).1
    have := addI13_len_le E n
    omega
theorem addsI_len : ∀ (D E : List Int), D.Nodup → (∀ x ∈ D, inS x) → (∀ x ∈ D, x ∉ E) → (addsI E D).length = E.length + D.length
  | [], E, _, _, _ => by simp [addsI]
  | n :: r, E, h1, h2, h3 => by
    have hn := List.nodup_cons.1 h1
    have hi := h2 n (by simp)
    have e : (addI13 E n).1 = insI n E := by
      unfold addI13
      rw [if_pos ⟨hi.1, hi.2, h3 n (by simp)⟩]
    rw [addsI_cons, e, addsI_len r (insI n E) hn.2 (fun x hx => h2 x (by simp [hx])) (fun x hx hh => by
      rcases insI_mem.1 hh with rfl | hh
      · exact hn.1 hx
      · exact h3 x (by simp [hx]) hh), insI_len, List.length_cons]
    omega
theorem minusI_len_le (E D : List Int) : (minusI E D).length ≤ E.length := List.length_filter_le _ _
/-- Both orders make the same. -/
theorem both_same {E D : List Int} (hE : SetOk E) (hD : SetOk D) : addsI E D = addsI D E := (hE.adds).ext hD.adds fun x => by
  rw [addsI_mem, addsI_mem]
  constructor
  · rintro (h | ⟨h, _⟩)
    · exact .inr ⟨h, hE.2 x h⟩
    · exact .inl h
  · rintro (h | ⟨h, _⟩)
    · exact .inr ⟨h, hD.2 x h⟩
    · exact .inl h
theorem minus_back {E D : List Int} (hE : SetOk E) (hD : SetOk D) : addsI (minusI E D) D = addsI E D := (hE.minus.adds).ext hE.adds fun x => by
  rw [addsI_mem, addsI_mem, minusI_mem]
  constructor
  · rintro (h | h)
    · exact .inl h.1
    · exact .inr h
  · rintro (h | h)
    · by_cases hx : x ∈ D
      · exact .inr ⟨hx, hD.2 x hx⟩
      · exact .inl ⟨h, hx⟩
    · exact .inr h
theorem both_len {E D : List Int} (hE : SetOk E) (hD : SetOk D) : (addsI E D).length = (minusI E D).length + D.length := by
  rw [← minus_back hE hD]
  exact addsI_len D _ (rise_nodup hD.1) hD.2 fun x hx h => (minusI_mem.1 h).2 hx
theorem news_none {E D : List Int} (h : ∀ x ∈ D, x ∈ E) : newsI E D = false := by
  unfold newsI
  rw [List.any_eq_false]
  intro x hx
  simp [h x hx]
theorem spG_seq (a : Int) (n : Nat) : spG none (seqI a (n + 1)) = [a, a + n] := by
  have h : SpOk [(a, a + (n : Int))] := by show a ≤ a + (n : Int); omega
  have e : els [(a, a + (n : Int))] = seqI a (n + 1) := by
    show seqI a (a + (n : Int) - a + 1).toNat ++ [] = _
    rw [List.append_nil]
    congr 1
    omega
  rw [← e, spG_els none h (fun _ _ h => by cases h)]
  rfl
theorem spG_len : ∀ (l : List Int) (p : Option Int), (spG p l).length ≤ 2 * l.length
  | [], _ => by simp [spG]
  | x :: r, p => by
    have := spG_len r (some x)
    rw [spG, List.length_append, List.length_append, List.length_cons]
    split <;> split <;> simp <;> omega

end Go.Proofs.Ytneehdjaaofjaaa
