/- strconv.ParseInt over digits: by the value. -/
import Derived.Test.YthbhlmkgbinegaaDoorU4
namespace Go.Proofs.YthbhlmkgbinegaaDoor
open Go.RowKit
def vFrom (base : Nat) (acc : Nat) (l : List UInt8) : Nat := l.foldl (fun n b => n * base + digV b.toNat) acc
theorem vFrom_ge (base : Nat) (hb : 1 ≤ base) (l : List UInt8) (acc : Nat) : acc ≤ vFrom base acc l := by
  induction l generalizing acc with
  | nil => exact Nat.le_refl _
  | cons c l ih =>
    refine Nat.le_trans ?_ (ih (acc * base + digV c.toNat))
    have := Nat.mul_le_mul_left acc hb
    omega
theorem pU_eq (base : Nat) (hb : 1 ≤ base) (l : List UInt8) (acc : Nat) (ha : acc < 18446744073709551616) : pU base acc l = if vFrom base acc l < 18446744073709551616 then some (vFrom base acc l) else none := by
  induction l generalizing acc with
  | nil => simp [pU, vFrom, ha]
  | cons c l ih =>
    have hv : vFrom base acc (c :: l) = vFrom base (acc * base + digV c.toNat) l := rfl
    rw [hv]
    unfold pU
    by_cases h : 18446744073709551616 ≤ acc * base + digV c.toNat
    · rw [if_pos h, if_neg]
      have := vFrom_ge base hb l (acc * base + digV c.toNat)
      omega
    · rw [if_neg h]
      exact ih _ (by omega)
theorem valN_eq (base : Nat) (l : List UInt8) : valN base l = vFrom base 0 l := rfl
/-- what the digits of a base are. -/
def okDig (base : Nat) (c : UInt8) : Prop := if base = 10 then 48 ≤ c.toNat ∧ c.toNat ≤ 57 else isHx (c.toNat : Nat) = true
theorem pu_any (base : Nat) (hb : base = 10 ∨ base = 16) (t : ByteArray) (hne : t.size ≠ 0) (hmax : t.size ≤ 20000) (hd : ∀ c ∈ t.data.toList, okDig base c) (w : World) :
    Calls Tryd.prog 63 #[.string t, .int .i64 base, .int .i64 64] w fun e w' => e = .returned (uTup (pU base 0 t.data.toList)) ∧ Lib.bytesWorld w 5 t = w' := by
  rcases hb with rfl | rfl
  · exact pu10 t hne hmax (fun c hc => by simpa [okDig] using hd c hc) w
  · exact pu16 t hne hmax (fun c hc => by simpa [okDig] using hd c hc) w
theorem dig_48 (base : Nat) (hb : base = 10 ∨ base = 16) (t : ByteArray) (hne : 0 < t.size) (hd : ∀ c ∈ t.data.toList, okDig base c) : 48 ≤ (t[0].toNat : Int) := by
  have := hd t[0] (by have : t.data.toList[0]'(by simpa using hne) = t[0] := rfl
                      rw [← this]; exact List.getElem_mem _)
  rcases hb with rfl | rfl
  · simp [okDig] at this; omega
  · simp only [okDig] at this
    have := hx_lo (by simpa using this)
    omega
theorem parse_ok (base : Nat) (hb : base = 10 ∨ base = 16) (t : ByteArray) (hne : t.size ≠ 0) (hmax : t.size ≤ 20000) (hd : ∀ c ∈ t.data.toList, okDig base c) (w : World)
    (hn : valN base t.data.toList < 9223372036854775808) :
    Calls Tryd.prog 45 #[.string t, .int .i64 base, .int .i64 64] w fun e w' => e = .returned (.tuple #[.int .i64 (valN base t.data.toList : Nat), .nilIface]) ∧ Below w.heap.size w w' := by
  have h1 := pu_any base hb t hne hmax hd w
  rw [pU_eq base (by omega) _ _ (by omega), ← valN_eq, if_pos (by omega)] at h1
  exact pi_ok t base _ w (ii_ok t base (valN base t.data.toList) _ rfl hn (by omega) (dig_48 base hb t (by omega) hd) w h1)
theorem parse_err (base : Nat) (hb : base = 10 ∨ base = 16) (t : ByteArray) (hne : t.size ≠ 0) (hmax : t.size ≤ 20000) (hd : ∀ c ∈ t.data.toList, okDig base c) (w : World) (hv : Vars w)
    (hn : 9223372036854775808 ≤ valN base t.data.toList) :
    Calls Tryd.prog 45 #[.string t, .int .i64 base, .int .i64 64] w (Fails w) := by
  have h1 := pu_any base hb t hne hmax hd w
  rw [pU_eq base (by omega) _ _ (by omega), ← valN_eq] at h1
  refine pi_err t base hmax w hv ?_
  by_cases h : valN base t.data.toList < 18446744073709551616
  · rw [if_pos h] at h1
    exact ii_big t base _ (by omega) (by omega) (by omega) (dig_48 base hb t (by omega) hd) w h1
  · rw [if_neg h] at h1
    exact ii_none t base (by omega) (dig_48 base hb t (by omega) hd) w h1
end Go.Proofs.YthbhlmkgbinegaaDoor
