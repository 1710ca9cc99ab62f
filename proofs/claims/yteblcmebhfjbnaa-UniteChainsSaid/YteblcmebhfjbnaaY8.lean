/- Chains of numbers put together, in plain words. -/
import Derived.Test.YteblcmebhfjbnaaY7
namespace Go.Proofs.Yteblcmebhfjbnaa
open Go.RowKit
def chG (k lo hi : Nat) : List Nat := (List.range k).map fun i => if lo ≤ i ∧ i ≤ hi then lo else i
theorem chG_len (k lo hi : Nat) : (chG k lo hi).length = k := by simp [chG]
theorem chG_at {k lo hi i : Nat} (h : i < k) : (chG k lo hi)[i]? = some (if lo ≤ i ∧ i ≤ hi then lo else i) := by
  unfold chG
  rw [List.getElem?_map, range_at h]
  rfl
theorem chG_first (k a : Nat) : chG k a a = List.range k := by
  refine List.ext_getElem? fun i => ?_
  by_cases h : i < k
  · rw [chG_at h, range_at h]
    congr 1
    split <;> omega
  · rw [List.getElem?_eq_none (by rw [chG_len]; omega), List.getElem?_eq_none (by rw [List.length_range]; omega)]
theorem joinG_at {g : List Nat} {a b x y : Nat} (ha : g[a]? = some x) (hb : g[b]? = some y) (h : x ≠ y) : joinG g (a : Int) (b : Int) = (relab (min x y) (max x y) g, true) := by
  rw [joinG, if_neg (by rw [findI_in ha, findI_in hb]; omega), findI_in ha, findI_in hb, Int.toNat_natCast, Int.toNat_natCast]
theorem chG_up {k lo hi : Nat} (h : lo ≤ hi) (hk : hi + 1 < k) : joinG (chG k lo hi) (hi : Int) ((hi + 1 : Nat) : Int) = (chG k lo (hi + 1), true) := by
  have e1 : (chG k lo hi)[hi]? = some lo := by rw [chG_at (by omega), if_pos (by omega)]
  have e2 : (chG k lo hi)[hi + 1]? = some (hi + 1) := by rw [chG_at hk, if_neg (by omega)]
  rw [joinG_at e1 e2 (by omega)]
  congr 1
  rw [Nat.min_eq_left (by omega), Nat.max_eq_right (by omega)]
  refine List.ext_getElem? fun i => ?_
  by_cases hi' : i < k
  · rw [relab_at, chG_at hi', chG_at hi', Option.map_some]
    congr 1
    split <;> (try split) <;> (try split) <;> omega
  · rw [List.getElem?_eq_none (by rw [relab_len, chG_len]; omega), List.getElem?_eq_none (by rw [chG_len]; omega)]
theorem chG_down {k lo hi : Nat} (h : lo + 1 ≤ hi) (hk : hi < k) : joinG (chG k (lo + 1) hi) (lo : Int) ((lo + 1 : Nat) : Int) = (chG k lo hi, true) := by
  have e1 : (chG k (lo + 1) hi)[lo]? = some lo := by rw [chG_at (by omega), if_neg (by omega)]
  have e2 : (chG k (lo + 1) hi)[lo + 1]? = some (lo + 1) := by rw [chG_at (by omega), if_pos (by omega)]
  rw [joinG_at e1 e2 (by omega)]
  congr 1
  rw [Nat.min_eq_left (by omega), Nat.max_eq_right (by omega)]
  refine List.ext_getElem? fun i => ?_
  by_cases hi' : i < k
  · rw [relab_at, chG_at hi', chG_at hi', Option.map_some]
    congr 1
    split <;> (try split) <;> (try split) <;> omega
  · rw [List.getElem?_eq_none (by rw [relab_len, chG_len]; omega), List.getElem?_eq_none (by rw [chG_len]; omega)]
theorem cntP_mid (lo hi : Nat) : ∀ n : Nat, cntP (fun i => decide (lo ≤ i ∧ i ≤ hi)) n = min n (hi + 1) - lo
  | 0 => by simp [cntP]
  | n + 1 => by
    rw [cntP, cntP_mid lo hi n]
    by_cases h : lo ≤ n ∧ n ≤ hi
    · rw [if_pos (decide_eq_true h)]
      omega
    · rw [if_neg (by simp [h])]
      omega
theorem cntP_not (p : Nat → Bool) : ∀ n : Nat, cntP p n + cntP (fun i => !p i) n = n
  | 0 => rfl
  | n + 1 => by
    have := cntP_not p n
    rw [cntP, cntP]
    cases p n <;> simp <;> omega
theorem chG_siz {k lo hi i : Nat} (h1 : lo ≤ i) (h2 : i ≤ hi) (hk : hi < k) : findI (chG k lo hi) (i : Int) = (lo : Int) ∧ sizI (chG k lo hi) (i : Int) = hi - lo + 1 := by
  have e : findI (chG k lo hi) (i : Int) = (lo : Int) := findI_in (by rw [chG_at (by omega), if_pos ⟨h1, h2⟩])
  refine ⟨e, ?_⟩
  rw [sizI, e, if_neg (by omega), Int.toNat_natCast, sizG, chG_len]
  have : cntP (fun i => decide ((chG k lo hi)[i]? = some lo)) k = cntP (fun i => decide (lo ≤ i ∧ i ≤ hi)) k := cntP_congr fun j hj => by
    rw [chG_at hj, decide_eq_decide, Option.some.injEq]
    split <;> omega
  rw [this, cntP_mid]
  omega
theorem chG_cnt {k lo hi : Nat} (h : lo ≤ hi) (hk : hi < k) : cntG (chG k lo hi) + (hi - lo) = k := by
  have e1 : cntG (chG k lo hi) = cntP (fun i => !decide (lo + 1 ≤ i ∧ i ≤ hi)) k := by
    unfold cntG
    rw [chG_len]
    refine cntP_congr fun j hj => ?_
    rw [chG_at hj]
    by_cases hh : lo + 1 ≤ j ∧ j ≤ hi
    · rw [if_pos (by omega), decide_eq_true hh]
      simp
      omega
    · rw [decide_eq_false hh]
      simp
      omega
  have e2 := cntP_not (fun i => decide (lo + 1 ≤ i ∧ i ≤ hi)) k
  rw [cntP_mid] at e2
  rw [e1]
  omega

end Go.Proofs.Yteblcmebhfjbnaa
