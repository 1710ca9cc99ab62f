/- Plain: a number, found by the run of all name bytes (the document's answer does so). -/
import Derived.Test.YthbhlmkgbinegaaDoorP7
namespace Go.Proofs.YthbhlmkgbinegaaDoor
theorem pfx_mono (p q : Int → Bool) (h : ∀ c, p c = true → q c = true) (l : List UInt8) : pfx p l ≤ pfx q l := by
  induction l with
  | nil => exact Nat.le_refl _
  | cons b l ih =>
    unfold pfx
    split
    · rename_i e; rw [if_pos (h _ e)]; omega
    · omega
theorem pfx_cons (p : Int → Bool) (b : UInt8) (l : List UInt8) (h : p (b.toNat : Nat) = true) : pfx p (b :: l) = pfx p l + 1 := by
  show (if p (b.toNat : Nat) = true then pfx p l + 1 else 0) = _
  rw [if_pos h]
theorem dig_wb (c : Int) (h : isDig c = true) : isWb c = true := by unfold isWb; rw [h]; exact Bool.or_true _
theorem hx_wb (c : Int) (h : isHx c = true) : isWb c = true := by
  simp [isWb, isLet, isHx, isDig] at h ⊢
  omega
theorem wb_at (l : List UInt8) (k : Nat) (hk : k ≤ pfx isWb l) : (k < l.length ∧ isWb ((l.getD k 0).toNat : Nat) = true) ↔ k < pfx isWb l := by
  constructor
  · rintro ⟨h1, h2⟩
    rcases Nat.lt_or_ge k (pfx isWb l) with h | h
    · exact h
    · exfalso
      have e : k = pfx isWb l := by omega
      subst e
      have := pfx_not isWb l h1
      rw [List.getD_eq_getElem?_getD, List.getElem?_eq_getElem h1] at h2
      simp only [Option.getD_some] at h2
      rw [this] at h2
      exact Bool.noConfusion h2
  · intro h
    have h1 : k < l.length := Nat.lt_of_lt_of_le h (pfx_le _ _)
    refine ⟨h1, ?_⟩
    rw [List.getD_eq_getElem?_getD, List.getElem?_eq_getElem h1]
    exact pfx_all isWb l k h
theorem span_run (l : List UInt8) (hd : isDig (hd l) = true) (h0 : 0 < l.length) : (spanR l).stop ≤ pfx isWb l := by
  unfold spanR
  split
  · exact pfx_mono _ _ dig_wb l
  · split
    · rename_i hx
      obtain ⟨a1, a2, a3⟩ := hexD_pos hx
      show 2 + hexD l ≤ _
      have hp : Lib.hasPrefix l [48, 120] = true := by
        unfold hexD at hx
        split at hx
        · assumption
        · omega
      unfold Lib.hasPrefix at hp
      rw [List.isPrefixOf_iff_prefix] at hp
      obtain ⟨r, rfl⟩ := hp
      have e : pfx isWb ([48, 120] ++ r) = pfx isWb r + 2 := by
        show pfx isWb (48 :: 120 :: r) = _
        rw [pfx_cons _ _ _ (by decide), pfx_cons _ _ _ (by decide)]
      rw [e]
      have h3 := pfx_mono isHx isWb hx_wb r
      have h4 : hexD ([48, 120] ++ r) ≤ pfx isHx r := a2
      omega
    · show 1 ≤ _
      exact pfx_pos isWb l (dig_wb _ hd) h0
/-- A number, by its run n of name bytes. -/
theorem number_run (l : List UInt8) (hd : isDig (hd l) = true) (h0 : 0 < l.length) : numberR l =
    if (spanR l).stop < pfx isWb l then Tk.bad 2
    else if 9223372036854775808 ≤ valN (spanR l).base ((l.take (pfx isWb l)).drop (spanR l).start) then Tk.bad 5
    else ⟨3, pfx isWb l, valN (spanR l).base ((l.take (pfx isWb l)).drop (spanR l).start), 0⟩ := by
  have hs := span_run l hd h0
  have hw := wb_at l (spanR l).stop hs
  unfold numberR
  by_cases h : (spanR l).stop < pfx isWb l
  · rw [if_pos (hw.2 h), if_pos h]
  · have e : (spanR l).stop = pfx isWb l := by omega
    rw [if_neg (fun hh => h (hw.1 hh)), if_neg h, e]
end Go.Proofs.YthbhlmkgbinegaaDoor
