/- Plain: the length of the longest prefix of a list of bytes whose bytes are of a kind. -/
import Derived.WalkKit
namespace Go.Proofs.YthbhlmkgbinegaaDoor
def pfx (p : Int → Bool) : List UInt8 → Nat
  | [] => 0
  | b :: l => if p b.toNat = true then pfx p l + 1 else 0
theorem pfx_le (p : Int → Bool) (l : List UInt8) : pfx p l ≤ l.length := by
  induction l with
  | nil => simp [pfx]
  | cons b l ih => simp only [pfx]; split <;> simp <;> omega
/-- all the first k are of the kind, the k-th isn't (or there is none): then k is the length. -/
theorem pfx_eq (p : Int → Bool) (l : List UInt8) (k : Nat) (hk : k ≤ l.length) (h : ∀ i (hi : i < k), p (l[i]'(by omega)).toNat = true) (hn : ∀ (hi : k < l.length), p (l[k]).toNat = false) : pfx p l = k := by
  induction l generalizing k with
  | nil => simp at hk; simp [pfx, hk]
  | cons b l ih =>
    cases k with
    | zero => have := hn (by simp); simp at this; simp [pfx, this]
    | succ k =>
      have h0 := h 0 (by omega); simp at h0
      simp only [pfx, h0, if_true]
      rw [ih k (by simpa using hk) (fun i hi => by simpa using h (i+1) (by omega)) (fun hi => hn (by simpa using hi))]
theorem pfx_all (p : Int → Bool) (l : List UInt8) (i : Nat) (hi : i < pfx p l) : p (l[i]'(Nat.lt_of_lt_of_le hi (pfx_le p l))).toNat = true := by
  induction l generalizing i with
  | nil => simp [pfx] at hi
  | cons b l ih =>
    simp only [pfx] at hi
    split at hi
    · cases i with
      | zero => simpa
      | succ i => simpa using ih i (by omega)
    · omega
theorem pfx_not (p : Int → Bool) (l : List UInt8) (hi : pfx p l < l.length) : p (l[pfx p l]).toNat = false := by
  induction l with
  | nil => simp at hi
  | cons b l ih =>
    by_cases hb : p b.toNat = true
    · have e : pfx p (b :: l) = pfx p l + 1 := by simp [pfx, hb]
      simp only [e, List.length_cons] at hi
      simp only [e, List.getElem_cons_succ]
      exact ih (by omega)
    · have e : pfx p (b :: l) = 0 := by simp [pfx, hb]
      simp only [e, List.getElem_cons_zero]
      simpa using hb
theorem bytes_len (s : ByteArray) : s.data.toList.length = s.size := by simp
theorem bytes_get (s : ByteArray) (k : Nat) (h : k < s.size) : s.data.toList[k]'(by simpa using h) = s[k] := rfl
theorem pfx_bytes (p : Int → Bool) (s : ByteArray) (k : Nat) (hk : k ≤ s.size) (h : ∀ i (hi : i < k), p (s[i]'(by omega)).toNat = true) (hn : ∀ (hi : k < s.size), p (s[k]).toNat = false) : pfx p s.data.toList = k :=
  pfx_eq p _ k (by simpa using hk) (fun i hi => h i hi) (fun hi => hn (by simpa using hi))
end Go.Proofs.YthbhlmkgbinegaaDoor
