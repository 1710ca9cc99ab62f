/- lex.prefix at the three functions that it is called with. -/
import Derived.Test.YthbhlmkgbinegaaDoorA1
import Derived.Test.YthbhlmkgbinegaaDoorP0
import Derived.LoopTactic
import Derived.Lib.Hide
namespace Go.Proofs.YthbhlmkgbinegaaDoor
open Go.RowKit
set_option maxHeartbeats 400000 in
theorem prefix_wb (s : ByteArray) (w : World) (hs : s.size ≤ maxLen) :
    Calls Tryd.prog 33 #[.string s, .func (.func 34) #[] #[]] w fun e w' => e = .returned (.int .i64 (pfx isWb s.data.toList : Nat)) ∧ w = w' := by
  unfold maxLen at hs
  go_enter Tryd.func33, Tryd.ntmps33
  go_wp2_with fail
  go_loop [5] (fun i => ∃ k : Nat, k ≤ s.size ∧ i = .int .i64 k ∧ ∀ j (hj : j < k) (hj2 : j < s.size), isWb (s[j].toNat) = true) (fun i => s.size - (intOf i).toNat)
  case atStart => exact ⟨0, Nat.zero_le _, rfl, fun j hj => absurd hj (by omega)⟩
  case round =>
    obtain ⟨k, hk, rfl, hall0⟩ := hrel
    have hall := Lib.hid hall0
    clear hall0
    by_cases hlt : k < s.size
    · cases hb : isWb (s[k].toNat) with
      | true =>
        have hb' := Lib.hid hb
        go_wp2_with (go_at_call 34; refine (isWordByte_any _ _).mono ?_; rintro e w' ⟨rfl, rfl⟩)
        go_round
        case rel => exact ⟨k + 1, by omega, by go_num, fun j hj hj2 => by
          by_cases e : j = k
          · subst e; exact hb'.out
          · exact hall.out j (by omega) hj2⟩
        case measure => simp [intOf]; omega
      | false =>
        have hb' := Lib.hid hb
        go_wp2_with (go_at_call 34; refine (isWordByte_any _ _).mono ?_; rintro e w' ⟨rfl, rfl⟩)
        go_ret
        exact ⟨ret_int (by rw [pfx_bytes isWb s k hk (fun i hi => hall.out i hi (by omega)) (fun _ => hb'.out)]), rfl⟩
    · go_wp2_with fail
      go_ret
      exact ⟨ret_int (by rw [pfx_bytes isWb s k hk (fun i hi => hall.out i hi (by omega)) (fun h => absurd h hlt)]), rfl⟩
set_option maxHeartbeats 400000 in
theorem prefix_dig (s : ByteArray) (w : World) (hs : s.size ≤ maxLen) :
    Calls Tryd.prog 33 #[.string s, .func (.func 27) #[] #[]] w fun e w' => e = .returned (.int .i64 (pfx isDig s.data.toList : Nat)) ∧ w = w' := by
  unfold maxLen at hs
  go_enter Tryd.func33, Tryd.ntmps33
  go_wp2_with fail
  go_loop [5] (fun i => ∃ k : Nat, k ≤ s.size ∧ i = .int .i64 k ∧ ∀ j (hj : j < k) (hj2 : j < s.size), isDig (s[j].toNat) = true) (fun i => s.size - (intOf i).toNat)
  case atStart => exact ⟨0, Nat.zero_le _, rfl, fun j hj => absurd hj (by omega)⟩
  case round =>
    obtain ⟨k, hk, rfl, hall0⟩ := hrel
    have hall := Lib.hid hall0
    clear hall0
    by_cases hlt : k < s.size
    · cases hb : isDig (s[k].toNat) with
      | true =>
        have hb' := Lib.hid hb
        go_wp2_with (go_at_call 27; refine (isDigit_any _ _).mono ?_; rintro e w' ⟨rfl, rfl⟩)
        go_round
        case rel => exact ⟨k + 1, by omega, by go_num, fun j hj hj2 => by
          by_cases e : j = k
          · subst e; exact hb'.out
          · exact hall.out j (by omega) hj2⟩
        case measure => simp [intOf]; omega
      | false =>
        have hb' := Lib.hid hb
        go_wp2_with (go_at_call 27; refine (isDigit_any _ _).mono ?_; rintro e w' ⟨rfl, rfl⟩)
        go_ret
        exact ⟨ret_int (by rw [pfx_bytes isDig s k hk (fun i hi => hall.out i hi (by omega)) (fun _ => hb'.out)]), rfl⟩
    · go_wp2_with fail
      go_ret
      exact ⟨ret_int (by rw [pfx_bytes isDig s k hk (fun i hi => hall.out i hi (by omega)) (fun h => absurd h hlt)]), rfl⟩
set_option maxHeartbeats 400000 in
theorem prefix_hx (s : ByteArray) (w : World) (hs : s.size ≤ maxLen) :
    Calls Tryd.prog 33 #[.string s, .func (.func 53) #[] #[]] w fun e w' => e = .returned (.int .i64 (pfx isHx s.data.toList : Nat)) ∧ w = w' := by
  unfold maxLen at hs
  go_enter Tryd.func33, Tryd.ntmps33
  go_wp2_with fail
  go_loop [5] (fun i => ∃ k : Nat, k ≤ s.size ∧ i = .int .i64 k ∧ ∀ j (hj : j < k) (hj2 : j < s.size), isHx (s[j].toNat) = true) (fun i => s.size - (intOf i).toNat)
  case atStart => exact ⟨0, Nat.zero_le _, rfl, fun j hj => absurd hj (by omega)⟩
  case round =>
    obtain ⟨k, hk, rfl, hall0⟩ := hrel
    have hall := Lib.hid hall0
    clear hall0
    by_cases hlt : k < s.size
    · cases hb : isHx (s[k].toNat) with
      | true =>
        have hb' := Lib.hid hb
        go_wp2_with (go_at_call 53; refine (isHex_any _ _).mono ?_; rintro e w' ⟨rfl, rfl⟩)
        go_round
        case rel => exact ⟨k + 1, by omega, by go_num, fun j hj hj2 => by
          by_cases e : j = k
          · subst e; exact hb'.out
          · exact hall.out j (by omega) hj2⟩
        case measure => simp [intOf]; omega
      | false =>
        have hb' := Lib.hid hb
        go_wp2_with (go_at_call 53; refine (isHex_any _ _).mono ?_; rintro e w' ⟨rfl, rfl⟩)
        go_ret
        exact ⟨ret_int (by rw [pfx_bytes isHx s k hk (fun i hi => hall.out i hi (by omega)) (fun _ => hb'.out)]), rfl⟩
    · go_wp2_with fail
      go_ret
      exact ⟨ret_int (by rw [pfx_bytes isHx s k hk (fun i hi => hall.out i hi (by omega)) (fun h => absurd h hlt)]), rfl⟩
end Go.Proofs.YthbhlmkgbinegaaDoor
