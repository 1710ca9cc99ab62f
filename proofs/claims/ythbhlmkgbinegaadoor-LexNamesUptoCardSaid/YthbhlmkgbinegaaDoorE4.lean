/- The document's answer: value. -/
import Derived.Test.YthbhlmkgbinegaaDoorP7
namespace Go.Proofs.YthbhlmkgbinegaaDoor
open Go.RowKit
def valF (base : Nat) (n : Nat) (l : List UInt8) : Nat := l.foldl (fun n b => n * base + digV b.toNat) n
theorem valF_ge (base : Nat) (hb : 1 ≤ base) (l : List UInt8) : ∀ n, n ≤ valF base n l := by
  induction l with
  | nil => intro n; exact Nat.le_refl _
  | cons c l ih =>
    intro n
    have h1 := ih (n * base + digV c.toNat)
    have h2 : n ≤ n * base := Nat.le_mul_of_pos_right n hb
    show n ≤ valF base (n * base + digV c.toNat) l
    omega
def valV (n : Nat) : Value := if n < 9223372036854775808 then .tuple #[.int .i64 n, .bool true] else .tuple #[.int .i64 0, .bool false]
set_option maxHeartbeats 4000000 in
theorem rVal10 (t : ByteArray) (ht : t.size ≤ 20000) (hd : ∀ c ∈ t.data.toList, isDig (c.toNat : Nat) = true) (w : World) :
    Calls Tryd.prog 57 #[.string t, .int .u64 10] w fun e w' => e = .returned (valV (valN 10 t.data.toList)) ∧ w = w' := by
  have HD := Lib.hid hd
  clear hd
  obtain ⟨N, hN⟩ : ∃ N, valN 10 t.data.toList = N := ⟨_, rfl⟩
  rw [hN]
  have HN := Lib.hid hN
  clear hN
  go_enter Tryd.func57, Tryd.ntmps57
  go_wp2_with fail
  go_loop [6, 7, 8] (fun v i _ => ∃ (k acc : Nat) (a ii : Int), v = .int .u64 a ∧ i = .int .i64 ii ∧ a = acc ∧ ii = k ∧ k ≤ t.size ∧ a < 9223372036854775808 ∧ Hid (N = valF 10 acc (t.data.toList.drop k))) (fun _ i _ => t.size - (intOf i).toNat)
  case atStart => exact ⟨0, 0, 0, 0, rfl, rfl, rfl, rfl, Nat.zero_le _, by omega, HN.out.symm⟩
  case round =>
    obtain ⟨k, acc, a, ii, rfl, rfl, ha, hi, hk, ha2, HV⟩ := hrel
    subst hi
    have a0 : 0 ≤ a := by omega
    by_cases hlt : k < t.size
    · have hdig : isDig (t[k].toNat : Nat) = true := HD.out (t.data.toList[k]'(by simpa using hlt)) (List.getElem_mem _)
      have hd1 : 48 ≤ (t[k].toNat : Int) ∧ (t[k].toNat : Int) ≤ 57 := by simp [isDig] at hdig; omega
      obtain ⟨hd1, hd2⟩ := hd1
      clear hdig
      have HS : Hid (N = valF 10 (acc * 10 + (t[k].toNat - 48)) (t.data.toList.drop (k + 1))) := by
        show _ = _
        rw [HV.out, List.drop_eq_getElem_cons (by simpa using hlt)]
        show valF 10 (acc * 10 + digV t[k].toNat) _ = _
        rw [show digV t[k].toNat = t[k].toNat - 48 by unfold digV; rw [if_pos (by omega)]]
      have hge : acc * 10 + (t[k].toNat - 48) ≤ N := by rw [HS.out]; exact valF_ge 10 (by omega) _ _
      go_wp2_with fail
      · go_ret2
        have hN : ¬ N < 9223372036854775808 := by omega
        exact ⟨by unfold valV; rw [if_neg hN]; rfl, rfl⟩
      · refine ⟨⟨k + 1, acc * 10 + (t[k].toNat - 48), _, _, rfl, rfl, ?_, ?_, by omega, ?_, HS⟩, by simp [intOf]; omega⟩
        all_goals omega
    · go_wp2_with fail
      go_ret2
      have he : N = acc := by rw [HV.out, List.drop_eq_nil_of_le (by simp; omega)]; rfl
      have hf : valV N = .tuple #[.int .i64 acc, .bool true] := by unfold valV; rw [if_pos (by omega), he]
      exact ⟨by rw [hf]; rfl, rfl⟩
set_option maxHeartbeats 8000000 in
theorem rVal16 (t : ByteArray) (ht : t.size ≤ 20000) (hd : ∀ c ∈ t.data.toList, isHx (c.toNat : Nat) = true) (w : World) :
    Calls Tryd.prog 57 #[.string t, .int .u64 16] w fun e w' => e = .returned (valV (valN 16 t.data.toList)) ∧ w = w' := by
  have HD := Lib.hid hd
  clear hd
  obtain ⟨N, hN⟩ : ∃ N, valN 16 t.data.toList = N := ⟨_, rfl⟩
  rw [hN]
  have HN := Lib.hid hN
  clear hN
  go_enter Tryd.func57, Tryd.ntmps57
  go_wp2_with fail
  go_loop [6, 7, 8] (fun v i _ => ∃ (k acc : Nat) (a ii : Int), v = .int .u64 a ∧ i = .int .i64 ii ∧ a = acc ∧ ii = k ∧ k ≤ t.size ∧ a < 9223372036854775808 ∧ Hid (N = valF 16 acc (t.data.toList.drop k))) (fun _ i _ => t.size - (intOf i).toNat)
  case atStart => exact ⟨0, 0, 0, 0, rfl, rfl, rfl, rfl, Nat.zero_le _, by omega, HN.out.symm⟩
  case round =>
    obtain ⟨k, acc, a, ii, rfl, rfl, ha, hi, hk, ha2, HV⟩ := hrel
    subst hi
    have a0 : 0 ≤ a := by omega
    by_cases hlt : k < t.size
    · have hdig : isHx (t[k].toNat : Nat) = true := HD.out (t.data.toList[k]'(by simpa using hlt)) (List.getElem_mem _)
      have hd1 : (48 ≤ (t[k].toNat : Int) ∧ (t[k].toNat : Int) ≤ 57) ∨ (97 ≤ (t[k].toNat : Int) ∧ (t[k].toNat : Int) ≤ 102) ∨ (65 ≤ (t[k].toNat : Int) ∧ (t[k].toNat : Int) ≤ 70) := by simp [isHx, isDig] at hdig; omega
      clear hdig
      rcases hd1 with ⟨hd1, hd2⟩ | ⟨hd1, hd2⟩ | ⟨hd1, hd2⟩
      · have HS : Hid (N = valF 16 (acc * 16 + (t[k].toNat - 48)) (t.data.toList.drop (k + 1))) := by
          show _ = _
          rw [HV.out, List.drop_eq_getElem_cons (by simpa using hlt)]
          show valF 16 (acc * 16 + digV t[k].toNat) _ = _
          rw [show digV t[k].toNat = t[k].toNat - 48 by unfold digV; rw [if_pos (by omega)]]
        have hge : acc * 16 + (t[k].toNat - 48) ≤ N := by rw [HS.out]; exact valF_ge 16 (by omega) _ _
        go_wp2_with fail
        · go_ret2
          have hN : ¬ N < 9223372036854775808 := by omega
          exact ⟨by unfold valV; rw [if_neg hN]; rfl, rfl⟩
        · refine ⟨⟨k + 1, acc * 16 + (t[k].toNat - 48), _, _, rfl, rfl, ?_, ?_, by omega, ?_, HS⟩, by simp [intOf]; omega⟩
          all_goals omega
      · have HS : Hid (N = valF 16 (acc * 16 + (t[k].toNat - 97 + 10)) (t.data.toList.drop (k + 1))) := by
          show _ = _
          rw [HV.out, List.drop_eq_getElem_cons (by simpa using hlt)]
          show valF 16 (acc * 16 + digV t[k].toNat) _ = _
          rw [show digV t[k].toNat = t[k].toNat - 97 + 10 by unfold digV; rw [if_neg (by omega), if_pos (by omega)]]
        have hge : acc * 16 + (t[k].toNat - 97 + 10) ≤ N := by rw [HS.out]; exact valF_ge 16 (by omega) _ _
        go_wp2_with fail
        · go_ret2
          have hN : ¬ N < 9223372036854775808 := by omega
          exact ⟨by unfold valV; rw [if_neg hN]; rfl, rfl⟩
        · refine ⟨⟨k + 1, acc * 16 + (t[k].toNat - 97 + 10), _, _, rfl, rfl, ?_, ?_, by omega, ?_, HS⟩, by simp [intOf]; omega⟩
          all_goals omega
      · have HS : Hid (N = valF 16 (acc * 16 + (t[k].toNat - 65 + 10)) (t.data.toList.drop (k + 1))) := by
          show _ = _
          rw [HV.out, List.drop_eq_getElem_cons (by simpa using hlt)]
          show valF 16 (acc * 16 + digV t[k].toNat) _ = _
          rw [show digV t[k].toNat = t[k].toNat - 65 + 10 by unfold digV; rw [if_neg (by omega), if_neg (by omega)]]
        have hge : acc * 16 + (t[k].toNat - 65 + 10) ≤ N := by rw [HS.out]; exact valF_ge 16 (by omega) _ _
        go_wp2_with fail
        · go_ret2
          have hN : ¬ N < 9223372036854775808 := by omega
          exact ⟨by unfold valV; rw [if_neg hN]; rfl, rfl⟩
        · refine ⟨⟨k + 1, acc * 16 + (t[k].toNat - 65 + 10), _, _, rfl, rfl, ?_, ?_, by omega, ?_, HS⟩, by simp [intOf]; omega⟩
          all_goals omega
    · go_wp2_with fail
      go_ret2
      have he : N = acc := by rw [HV.out, List.drop_eq_nil_of_le (by simp; omega)]; rfl
      have hf : valV N = .tuple #[.int .i64 acc, .bool true] := by unfold valV; rw [if_pos (by omega), he]
      exact ⟨by rw [hf]; rfl, rfl⟩
end Go.Proofs.YthbhlmkgbinegaaDoor
