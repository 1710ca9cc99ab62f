/- The document's answer: letter, digit, hex, run, in, Word, Name. -/
import Derived.Test.YthbhlmkgbinegaaDoorA5
namespace Go.Proofs.YthbhlmkgbinegaaDoor
open Go.RowKit
set_option maxHeartbeats 400000 in
theorem rDigit (c : Int) (w : World) : Calls Tryd.prog 48 #[.int .u8 c] w fun e w' => e = .returned (.bool (isDig c)) ∧ w = w' := by
  go_enter Tryd.func48, Tryd.ntmps48
  go_wp2
  all_goals go_ret
  all_goals exact ⟨ret_bool (by rw [Bool.eq_iff_iff]; simp [isDig]; try omega), rfl⟩
set_option maxHeartbeats 400000 in
theorem rLetter (c : Int) (w : World) : Calls Tryd.prog 36 #[.int .u8 c] w fun e w' => e = .returned (.bool (isLet c)) ∧ w = w' := by
  go_enter Tryd.func36, Tryd.ntmps36
  go_wp2
  all_goals go_ret
  all_goals exact ⟨ret_bool (by rw [Bool.eq_iff_iff]; simp [isLet]; try omega), rfl⟩
set_option maxHeartbeats 400000 in
theorem rHex (c : Int) (w : World) : Calls Tryd.prog 56 #[.int .u8 c] w fun e w' => e = .returned (.bool (isHx c)) ∧ w = w' := by
  go_enter Tryd.func56, Tryd.ntmps56
  go_wp2_with (go_at_call 48; refine (rDigit _ _).mono ?_; rintro e w' ⟨rfl, rfl⟩)
  all_goals go_ret
  all_goals exact ⟨ret_bool (by rw [Bool.eq_iff_iff]; simp_all [isHx]; try omega), rfl⟩
theorem rl_is (b : Bool) (c : Int) (w : World) (h : isLet c = b) : Calls Tryd.prog 36 #[.int .u8 c] w fun e w' => e = .returned (.bool b) ∧ w = w' := by
  subst h; exact rLetter c w
theorem rd_is (b : Bool) (c : Int) (w : World) (h : isDig c = b) : Calls Tryd.prog 48 #[.int .u8 c] w fun e w' => e = .returned (.bool b) ∧ w = w' := by
  subst h; exact rDigit c w
set_option maxHeartbeats 1000000 in
theorem rRun (s : ByteArray) (w : World) (hs : s.size ≤ maxLen) :
    Calls Tryd.prog 35 #[.string s, .int .i64 0] w fun e w' => e = .returned (.int .i64 (pfx isWb s.data.toList : Nat)) ∧ w = w' := by
  unfold maxLen at hs
  go_enter Tryd.func35, Tryd.ntmps35
  go_wp2_with fail
  go_loop [5] (fun i => ∃ k : Nat, k ≤ s.size ∧ i = .int .i64 k ∧ Hid (∀ j (hj : j < k) (hj2 : j < s.size), isWb (s[j].toNat) = true)) (fun i => s.size - (intOf i).toNat)
  case atStart => exact ⟨0, Nat.zero_le _, rfl, fun j hj => absurd hj (by omega)⟩
  case round =>
    obtain ⟨k, hk, rfl, hall⟩ := hrel
    by_cases hlt : k < s.size
    · cases hl : isLet (s[k].toNat) with
      | true =>
        have HL := Lib.hid hl
        have hb' : Hid (isWb (s[k].toNat) = true) := by show _ = _; unfold isWb; rw [hl]; rfl
        clear hl
        go_wp2_with (go_at_call 36; refine (rl_is true _ _ HL.out).mono ?_; rintro e w' ⟨rfl, rfl⟩)
        refine ⟨⟨k + 1, by omega, by go_num, fun j hj hj2 => ?_⟩, by simp [intOf]; omega⟩
        by_cases e : j = k
        · subst e; exact hb'.out
        · exact hall.out j (by omega) hj2
      | false =>
        have HL := Lib.hid hl
        cases hd : isDig (s[k].toNat) with
        | true =>
          have HD := Lib.hid hd
          have hb' : Hid (isWb (s[k].toNat) = true) := by show _ = _; unfold isWb; rw [hl, hd]; rfl
          clear hl hd
          go_wp2_with (first | (go_at_call 36; refine (rl_is false _ _ HL.out).mono ?_; rintro e w' ⟨rfl, rfl⟩) | (go_at_call 48; refine (rd_is true _ _ HD.out).mono ?_; rintro e w' ⟨rfl, rfl⟩))
          refine ⟨⟨k + 1, by omega, by go_num, fun j hj hj2 => ?_⟩, by simp [intOf]; omega⟩
          by_cases e : j = k
          · subst e; exact hb'.out
          · exact hall.out j (by omega) hj2
        | false =>
          have HD := Lib.hid hd
          have hb' : Hid (isWb (s[k].toNat) = false) := by show _ = _; unfold isWb; rw [hl, hd]; rfl
          clear hl hd
          go_wp2_with (first | (go_at_call 36; refine (rl_is false _ _ HL.out).mono ?_; rintro e w' ⟨rfl, rfl⟩) | (go_at_call 48; refine (rd_is false _ _ HD.out).mono ?_; rintro e w' ⟨rfl, rfl⟩))
          go_ret
          exact ⟨ret_int (by rw [pfx_bytes isWb s k hk (fun i hi => hall.out i hi (by omega)) (fun _ => hb'.out)]), rfl⟩
    · go_wp2_with fail
      go_ret
      exact ⟨ret_int (by rw [pfx_bytes isWb s k hk (fun i hi => hall.out i hi (by omega)) (fun h => absurd h hlt)]), rfl⟩
/-- a slice of strings, whose cells are known. -/
def StrRow (w : World) (g : Nat) (L : List (List UInt8)) : Prop := ∀ j (h : j < L.length), w.cell? ⟨g, j, none⟩ = some (.string ⟨(L[j]).toArray⟩)
def inL (L : List (List UInt8)) (l : List UInt8) : Bool := L.contains l
theorem inL_at (L : List (List UInt8)) (l : List UInt8) (k : Nat) (h : k < L.length) (e : L[k] = l) : inL L l = true := by
  subst e; exact List.contains_iff_mem.2 (List.getElem_mem h)
theorem inL_no (L : List (List UInt8)) (l : List UInt8) (h : ∀ j (hj2 : j < L.length), L[j] ≠ l) : inL L l = false := by
  cases e : inL L l with
  | false => rfl
  | true => obtain ⟨j, hj, e⟩ := List.getElem_of_mem (List.contains_iff_mem.1 e); exact absurd e (h j hj)
set_option maxHeartbeats 1000000 in
theorem rIn (g cap : Nat) (L : List (List UInt8)) (hL : L.length ≤ 100) (s : ByteArray) (w : World) (hr : StrRow w g L) :
    Calls Tryd.prog 37 #[.slice (some ⟨g, 0, none⟩) L.length cap, .string s] w fun e w' => e = .returned (.bool (inL L s.data.toList)) ∧ w = w' := by
  have HR := Lib.hid hr
  clear hr
  go_enter Tryd.func37, Tryd.ntmps37
  go_wp2_with fail
  go_loop [5] (fun i => ∃ k : Nat, k ≤ L.length ∧ i = .int .i64 k ∧ Hid (∀ j (hj : j < k) (hj2 : j < L.length), L[j] ≠ s.data.toList)) (fun i => L.length - (intOf i).toNat)
  case atStart => exact ⟨0, Nat.zero_le _, rfl, fun j hj => absurd hj (by omega)⟩
  case round =>
    obtain ⟨k, hk, rfl, hall⟩ := hrel
    by_cases hlt : k < L.length
    · have hc := HR.out k hlt
      generalize hx : L[k] = x at hc
      have hx := Lib.hid hx
      have hlt' : (k : Int) < L.length := by omega
      go_wp2
      · have h1 : (x == s.toList) = true := by assumption
        go_ret
        exact ⟨ret_bool (inL_at L _ k hlt (hx.out.trans (by have := eq_of_beq h1; rw [this, ByteArray.toList_eq]))).symm, rfl⟩
      · have h1 : (x == s.toList) = false := by assumption
        refine ⟨⟨k + 1, by omega, by go_num, fun j hj hj2 => ?_⟩, by simp [intOf]; omega⟩
        by_cases e : j = k
        · subst e; rw [hx.out]; intro e; rw [e, ByteArray.toList_eq] at h1; simp at h1
        · exact hall.out j (by omega) hj2
    · go_wp2
      go_ret
      exact ⟨ret_bool (inL_no L _ (fun j hj => hall.out j (by omega) hj)).symm, rfl⟩
theorem strRow_new (w : World) (L : List (List UInt8)) (t : TypeId) (fr : Nat × Nat) : StrRow (w.alloc (.cells (strs L) t fr)) w.heap.size L := by
  intro j h
  rw [cell_of_row _ w.heap.size j (strs L) t fr (by show (w.heap.push _)[w.heap.size]? = _; simp)]
  unfold strs
  simp [h]
set_option maxHeartbeats 1000000 in
theorem rWord (s : ByteArray) (w : World) :
    Calls Tryd.prog 18 #[.string s] w fun e w' => e = .returned (.bool (isKw s.data.toList)) ∧ Below w.heap.size w w' := by
  have HI : ∀ fr, Hid (Calls Tryd.prog 37 #[.slice (some ⟨w.heap.size, 0, none⟩) kwL.length 13, .string s] (w.alloc (.cells (strs kwL) 9 fr)) fun e w' => e = .returned (.bool (inL kwL s.data.toList)) ∧ w.alloc (.cells (strs kwL) 9 fr) = w') :=
    fun fr => rIn w.heap.size 13 kwL (by decide) s _ (strRow_new w kwL 9 fr)
  go_enter Tryd.func18, Tryd.ntmps18
  go_wp2_with fail
  refine ((HI (0, 0)).out).mono ?_
  rintro e w' ⟨rfl, rfl⟩
  go_wp2_with fail
  go_ret
  exact ⟨rfl, below_new _⟩
end Go.Proofs.YthbhlmkgbinegaaDoor
