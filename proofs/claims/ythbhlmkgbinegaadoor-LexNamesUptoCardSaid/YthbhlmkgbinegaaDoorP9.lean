/- Plain: the number of the document's answer, case by case. -/
import Derived.Test.YthbhlmkgbinegaaDoorP8
namespace Go.Proofs.YthbhlmkgbinegaaDoor
theorem spanDec {l : List UInt8} (hx : Lib.hasPrefix l [48, 120] = false) : spanR l = if l.headD 0 ≠ 48 then ⟨0, pfx isDig l, 10⟩ else ⟨0, 1, 10⟩ := by
  have : ¬ 0 < hexD l := by unfold hexD; rw [if_neg (by rw [hx]; exact Bool.false_ne_true)]; omega
  unfold spanR; rw [if_neg this]
theorem hd_get {l : List UInt8} (h0 : 0 < l.length) : hd l = (l[0].toNat : Nat) := by
  cases l with
  | nil => simp at h0
  | cons b r => rfl
theorem pfx_stop (p : Int → Bool) (l : List UInt8) (k : Nat) (hk : k < l.length) (h : p (l[k].toNat : Nat) = false) : pfx p l ≤ k := by
  rcases Nat.lt_or_ge k (pfx p l) with hh | hh
  · have := pfx_all p l k hh
    rw [this] at h; cases h
  · exact hh
theorem dec_bad {l : List UInt8} (hx : Lib.hasPrefix l [48, 120] = false) (hdg : isDig (hd l) = true) (k : Nat) (hk : k < pfx isWb l) (hkl : k < l.length) (hb : isDig (l[k].toNat : Nat) = false) : numberR l = Tk.bad 2 := by
  have h0 : 0 < l.length := by omega
  rw [number_run l hdg h0, if_pos]
  rw [spanDec hx]
  by_cases hh : l.headD 0 ≠ 48
  · rw [if_pos hh]
    have := pfx_stop isDig l k hkl hb
    show pfx isDig l < _
    omega
  · rw [if_neg hh]
    show 1 < _
    rcases Nat.eq_zero_or_pos k with e | e
    · subst e; rw [hd_get h0] at hdg; rw [hdg] at hb; cases hb
    · omega
theorem dec_zero {l : List UInt8} (hx : Lib.hasPrefix l [48, 120] = false) (hdg : isDig (hd l) = true) (h0 : 0 < l.length) (hn : 1 < pfx isWb l) (h48 : hd l = 48) : numberR l = Tk.bad 2 := by
  rw [number_run l hdg h0, if_pos]
  rw [spanDec hx, if_neg]
  · exact hn
  · intro hh
    apply hh
    apply UInt8.toNat_inj.1
    have : (48 : UInt8).toNat = 48 := rfl
    unfold hd at h48
    omega
theorem dec_ok {l : List UInt8} (hx : Lib.hasPrefix l [48, 120] = false) (hdg : isDig (hd l) = true) (h0 : 0 < l.length) (hall : ∀ k, k < pfx isWb l → (hkl : k < l.length) → isDig (l[k].toNat : Nat) = true) (hz : ¬ (1 < pfx isWb l ∧ hd l = 48)) :
    numberR l = if 9223372036854775808 ≤ valN 10 (l.take (pfx isWb l)) then Tk.bad 5 else ⟨3, pfx isWb l, valN 10 (l.take (pfx isWb l)), 0⟩ := by
  have hpos := pfx_pos isWb l (dig_wb _ hdg) h0
  have hs : (spanR l).stop = pfx isWb l ∧ (spanR l).start = 0 ∧ (spanR l).base = 10 := by
    rw [spanDec hx]
    by_cases hh : l.headD 0 ≠ 48
    · rw [if_pos hh]
      refine ⟨?_, rfl, rfl⟩
      show pfx isDig l = _
      have h1 := pfx_mono isDig isWb dig_wb l
      rcases Nat.lt_or_ge (pfx isDig l) (pfx isWb l) with h | h
      · have hl := pfx_le isWb l
        have := hall (pfx isDig l) h (by omega)
        rw [pfx_not isDig l (by omega)] at this
        cases this
      · omega
    · rw [if_neg hh]
      refine ⟨?_, rfl, rfl⟩
      show 1 = _
      have h48 : hd l = 48 := by
        have : l.headD 0 = 48 := by simpa using hh
        unfold hd; rw [this]; rfl
      rcases Nat.lt_or_ge 1 (pfx isWb l) with h | h
      · exact absurd ⟨h, h48⟩ hz
      · omega
  rw [number_run l hdg h0, hs.1, hs.2.1, hs.2.2, if_neg (by omega), List.drop_zero]
theorem hex_head {l : List UInt8} (hx : Lib.hasPrefix l [48, 120] = true) : ∃ r, l = 48 :: 120 :: r := by
  unfold Lib.hasPrefix at hx
  rw [List.isPrefixOf_iff_prefix] at hx
  obtain ⟨r, h⟩ := hx
  exact ⟨r, h.symm⟩
theorem hex_facts {l : List UInt8} (hx : Lib.hasPrefix l [48, 120] = true) : isDig (hd l) = true ∧ 0 < l.length ∧ pfx isWb l = pfx isWb (l.drop 2) + 2 ∧ hexD l = min (pfx isHx (l.drop 2)) 16 ∧ spanR l = if 0 < hexD l then ⟨2, 2 + hexD l, 16⟩ else ⟨0, 1, 10⟩ := by
  have he : hexD l = min (pfx isHx (l.drop 2)) 16 := by unfold hexD; rw [if_pos hx]
  obtain ⟨r, rfl⟩ := hex_head hx
  refine ⟨by rfl, by simp, ?_, he, ?_⟩
  · show pfx isWb (48 :: 120 :: r) = _
    rw [pfx_cons _ _ _ (by decide), pfx_cons _ _ _ (by decide)]
    rfl
  · unfold spanR; rw [if_neg (by simp)]
theorem hex_bad {l : List UInt8} (hx : Lib.hasPrefix l [48, 120] = true) (k : Nat) (h2 : 2 ≤ k) (hk : k < pfx isWb l) (hkl : k < l.length) (hb : isHx (l[k].toNat : Nat) = false) : numberR l = Tk.bad 2 := by
  obtain ⟨f1, f2, f3, f4, f5⟩ := hex_facts hx
  rw [number_run l f1 f2, if_pos]
  rw [f5]
  have hp : pfx isHx (l.drop 2) ≤ k - 2 := by
    refine pfx_stop isHx _ (k - 2) (by simp; omega) ?_
    rw [List.getElem_drop]
    have e : 2 + (k - 2) = k := by omega
    simp only [e]; exact hb
  by_cases h : 0 < hexD l
  · rw [if_pos h]; show 2 + hexD l < _; omega
  · rw [if_neg h]; show 1 < _; omega
theorem hex_long {l : List UInt8} (hx : Lib.hasPrefix l [48, 120] = true) (h : pfx isWb l = 2 ∨ 18 < pfx isWb l) : numberR l = Tk.bad 2 := by
  obtain ⟨f1, f2, f3, f4, f5⟩ := hex_facts hx
  rw [number_run l f1 f2, if_pos]
  rw [f5]
  have := pfx_mono isHx isWb hx_wb (l.drop 2)
  by_cases h : 0 < hexD l
  · rw [if_pos h]; show 2 + hexD l < _; omega
  · rw [if_neg h]; show 1 < _; omega
theorem hex_ok {l : List UInt8} (hx : Lib.hasPrefix l [48, 120] = true) (h2 : 2 < pfx isWb l) (h18 : pfx isWb l ≤ 18) (hall : ∀ k, 2 ≤ k → k < pfx isWb l → (hkl : k < l.length) → isHx (l[k].toNat : Nat) = true) :
    numberR l = if 9223372036854775808 ≤ valN 16 ((l.take (pfx isWb l)).drop 2) then Tk.bad 5 else ⟨3, pfx isWb l, valN 16 ((l.take (pfx isWb l)).drop 2), 0⟩ := by
  obtain ⟨f1, f2, f3, f4, f5⟩ := hex_facts hx
  have hp : pfx isHx (l.drop 2) = pfx isWb (l.drop 2) := by
    have h1 := pfx_mono isHx isWb hx_wb (l.drop 2)
    rcases Nat.lt_or_ge (pfx isHx (l.drop 2)) (pfx isWb (l.drop 2)) with h | h
    · have hl := pfx_le isWb (l.drop 2)
      have hl2 := hl
      rw [List.length_drop] at hl2
      have h3 := hall (2 + pfx isHx (l.drop 2)) (by omega) (by omega) (by omega)
      have h4 := pfx_not isHx (l.drop 2) (by omega)
      rw [List.getElem_drop] at h4
      rw [h4] at h3
      cases h3
    · omega
  have hs : hexD l = pfx isWb (l.drop 2) := by omega
  rw [if_pos (by omega)] at f5
  have e1 : (spanR l).stop = pfx isWb l := by rw [f5]; show 2 + hexD l = _; omega
  have e2 : (spanR l).start = 2 := by rw [f5]
  have e3 : (spanR l).base = 16 := by rw [f5]
  rw [number_run l f1 f2, e1, e2, e3, if_neg (by omega)]
end Go.Proofs.YthbhlmkgbinegaaDoor
