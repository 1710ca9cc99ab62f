/- UniteNobody, UniteBeyond, walked. -/
import Derived.Test.YteblcmebhfjbnaaV3
import Derived.Deep.DeepCutAuto
namespace Go.Proofs.Yteblcmebhfjbnaa
open Go.RowKit
set_option maxRecDepth 100000 in
set_option maxHeartbeats 4000000 in
theorem nobody_walk (i n : Int) (hn : n ≤ 9223372036854775807) (w : World) :
    Calls Try.prog 6 #[.int .i64 i, .int .i64 n] w fun e w' => e = .returned (.bool true) ∧ w.grownBy w' none := by
  go_enter Try.func6, Try.ntmps6
  go_wp2_with fail
  refine (shown_any w).mono ?_
  rintro e w1 ⟨rfl, hg⟩
  have HG1 := Lib.hid hg
  clear hg
  obtain ⟨N, hN⟩ : ∃ N : Int, N = if 0 < n then 0 - n else n := ⟨_, rfl⟩
  have hsz : List.range (szN N) = [] := by
    have : szN N = 0 := by rw [hN]; unfold szN; split <;> (try split) <;> (try split) <;> omega
    rw [this]; rfl
  go_upto_if 10 with fail
  go_cut [1] (fun v wx => v = .int .i64 N ∧ wx = w1)
  case first =>
    by_cases h : 0 < n
    · rw [if_pos h] at hN
      have hw : IntKind.i64.wrap (0 - n) = 0 - n := IntWalk.i64_in _ (by omega)
      have HN := Lib.hid hN
      clear hN
      go_wp2_with fail
      go_meet
      case rel => exact ⟨by rw [HN.out]; go_num, rfl⟩
    · rw [if_neg h] at hN
      have HN := Lib.hid hN
      clear hN
      go_wp2_with fail
      go_meet
      case rel => exact ⟨by rw [HN.out], rfl⟩
  case rest =>
  obtain ⟨rfl, hwc⟩ := hcut
  have hwc' := hwc.symm
  subst hwc'
  clear hN
  go_wp2_with fail
  refine (wg_new N (Wd.first w1)).mono ?_
  rintro e w2 ⟨m, o2, rfl, hw, _⟩
  rw [hsz] at hw
  have HW2 := Lib.hid hw
  clear hw
  go_wp2_with fail
  refine (Find14_nil i w2).mono ?_
  rintro e w3 ⟨rfl, hg⟩
  have HW3 := Lib.hid (HW2.out.keep hg)
  clear hg HW2
  go_wp2_with fail
  refine (Join14_nil i 0 w3).mono ?_
  rintro e w4 ⟨rfl, hg⟩
  have HW4 := Lib.hid (HW3.out.keep hg)
  clear hg HW3
  go_wp2_with fail
  refine (Size14_nil i w4).mono ?_
  rintro e w5 ⟨rfl, hg⟩
  have HW5 := Lib.hid (HW4.out.keep hg)
  clear hg HW4
  go_wp2_with fail
  refine (Count14_nil w5).mono ?_
  rintro e w6 ⟨rfl, hg⟩
  have HW6 := Lib.hid (HW5.out.keep hg)
  clear hg HW5
  go_wp2_with fail
  refine (Len14_nil w6).mono ?_
  rintro e w7 ⟨rfl, hg⟩
  have HW7 := Lib.hid (HW6.out.keep hg)
  clear hg HW6
  go_wp2_with fail
  refine (wg_len HW7.out mem0).mono ?_
  rintro e w8 ⟨rfl, hg⟩
  have HW8 := Lib.hid (HW7.out.keep hg)
  clear hg HW7
  go_wp2_with fail
  refine (wg_count HW8.out mem0).mono ?_
  rintro e w9 ⟨rfl, hg⟩
  rw [show cntG [] = 0 from rfl]
  have HW9 := Lib.hid (HW8.out.keep hg)
  clear hg HW8
  go_wp2_with fail
  go_ret
  exact ⟨rfl, grownBy_trans HG1.out HW9.out.gr⟩
theorem joinG_self (g : List Nat) (i : Int) : joinG g i i = (g, false) := if_pos (.inr (.inr rfl))
theorem joinG_far {g : List Nat} {a b : Int} (h : findI g b < 0) : joinG g a b = (g, false) := if_pos (.inr (.inl h))
theorem joinG_low {g : List Nat} {a b : Int} (h : findI g a < 0) : joinG g a b = (g, false) := if_pos (.inl h)
theorem cntP_pos {p : Nat → Bool} {y : Nat} : ∀ {n : Nat}, y < n → p y = true → 0 < cntP p n
  | 0, h, _ => by omega
  | n + 1, h, hp => by
    rw [cntP]
    by_cases e : y = n
    · subst e
      rw [if_pos hp]
      omega
    · have := cntP_pos (n := n) (y := y) (by omega) hp
      omega
theorem find_range {n : Nat} {i : Int} : findI (List.range n) i = if 0 ≤ i ∧ i < (n : Int) then i else -1 := by
  split
  · rename_i h
    obtain ⟨j, rfl⟩ : ∃ j : Nat, i = j := ⟨i.toNat, by omega⟩
    exact findI_in (range_at (by omega))
  · rename_i h
    exact findI_out (by rw [List.length_range]; exact h)
theorem siz_range {n : Nat} {k : Int} : decide (0 < ((sizI (List.range n) k : Nat) : Int)) = decide (0 ≤ k ∧ k < (n : Int)) := by
  unfold sizI
  rw [find_range]
  by_cases h : 0 ≤ k ∧ k < (n : Int)
  · obtain ⟨j, rfl⟩ : ∃ j : Nat, k = j := ⟨k.toNat, by omega⟩
    rw [if_pos h, if_neg (by omega), Int.toNat_natCast]
    have : 0 < sizG (List.range n) j := by
      unfold sizG
      rw [List.length_range]
      exact cntP_pos (y := j) (by omega) (decide_eq_true (range_at (by omega)))
    rw [decide_eq_true h, decide_eq_true (by omega)]
  · rw [if_neg h, if_pos (by omega), decide_eq_false h]
    rfl
set_option maxRecDepth 100000 in
set_option maxHeartbeats 4000000 in
theorem beyond_walk (n : Nat) (hn : n < 256) (i k : Int) (w : World) :
    Calls Try.prog 8 #[.int .u8 n, .int .i64 i, .int .i64 k] w fun e w' => e = .returned (.bool true) ∧ w.grownBy w' none := by
  go_enter Try.func8, Try.ntmps8
  go_wp2_with fail
  refine (shown_any w).mono ?_
  rintro e w1 ⟨rfl, hg⟩
  have HG1 := Lib.hid hg
  clear hg
  go_wp2_with fail
  refine (wg_new n (Wd.first w1)).mono ?_
  rintro e w2 ⟨m, o2, rfl, hw, _⟩
  rw [show szN (n : Int) = n by unfold szN; rw [if_neg (by omega), if_neg (by omega), Int.toNat_natCast]] at hw
  have HW2 := Lib.hid hw
  clear hw
  obtain ⟨b, hb⟩ : ∃ b, b = decide (0 ≤ i ∧ i < (n : Int)) := ⟨_, rfl⟩
  have HB := Lib.hid hb
  clear hb
  go_upto_region 5 with fail
  go_cut [9] (fun v wx => v = .bool b ∧ wx = w2)
  case first =>
    by_cases h0 : 0 ≤ i
    · by_cases h1 : i < (n : Int)
      · have HX := Lib.hid (show b = true by rw [HB.out]; exact decide_eq_true ⟨h0, h1⟩)
        go_wp2_with fail
        go_meet
        case rel => exact ⟨by rw [HX.out], rfl⟩
      · have HX := Lib.hid (show b = false by rw [HB.out]; exact decide_eq_false (by omega))
        go_wp2_with fail
        go_meet
        case rel => exact ⟨by rw [HX.out], rfl⟩
    · have HX := Lib.hid (show b = false by rw [HB.out]; exact decide_eq_false (by omega))
      go_wp2_with fail
      go_meet
      case rel => exact ⟨by rw [HX.out], rfl⟩
  case rest =>
  obtain ⟨rfl, hwc⟩ := hcut
  have hwc' := hwc.symm
  subst hwc'
  go_wp2_with fail
  refine (wg_count HW2.out mem0).mono ?_
  rintro e w3 ⟨rfl, hg⟩
  have HW3 := Lib.hid (HW2.out.keep hg)
  clear hg HW2
  obtain ⟨cc, hcc⟩ : ∃ c, c = cntG (List.range n) := ⟨_, rfl⟩
  rw [← hcc]
  have HCC := Lib.hid hcc.symm
  clear hcc
  go_wp2_with fail
  refine (wg_join i i HW3.out (by simp)).mono ?_
  rintro e w4 ⟨rfl, o4, hw, _⟩
  rw [joinG_self] at hw ⊢
  have HW4 := Lib.hid (show Wd w1 w4 o4 [(m, List.range n)] from hw)
  clear hw HW3
  go_wp2_with fail
  refine (wg_join i n HW4.out (by simp)).mono ?_
  rintro e w5 ⟨rfl, o5, hw, _⟩
  rw [joinG_far (by rw [find_range, if_neg (by omega)]; omega)] at hw ⊢
  have HW5 := Lib.hid (show Wd w1 w5 o5 [(m, List.range n)] from hw)
  clear hw HW4
  go_wp2_with fail
  refine (wg_join (-1) i HW5.out (by simp)).mono ?_
  rintro e w6 ⟨rfl, o6, hw, _⟩
  rw [joinG_low (by rw [find_range, if_neg (by omega)]; omega)] at hw ⊢
  have HW6 := Lib.hid (show Wd w1 w6 o6 [(m, List.range n)] from hw)
  clear hw HW5
  go_wp2_with fail
  refine (wg_find i HW6.out (by simp)).mono ?_
  rintro e w7 ⟨rfl, o7, hw, _⟩
  have HW7 := Lib.hid hw
  clear hw HW6
  obtain ⟨v, hv⟩ : ∃ v, v = findI (List.range n) i := ⟨_, rfl⟩
  rw [← hv]
  have hv2 : (b = true ∧ v = i) ∨ (b = false ∧ v = -1) := by
    rw [HB.out, hv, find_range]
    by_cases h : 0 ≤ i ∧ i < (n : Int)
    · exact .inl ⟨decide_eq_true h, if_pos h⟩
    · exact .inr ⟨decide_eq_false h, if_neg h⟩
  clear hv HB
  go_wp2_with fail
  refine (wg_count HW7.out mem0).mono ?_
  rintro e w8 ⟨rfl, hg⟩
  rw [HCC.out]
  have HW8 := Lib.hid (HW7.out.keep hg)
  clear hg HW7 HCC
  have HS := Lib.hid (siz_range (n := n) (k := k))
  rcases hv2 with ⟨rfl, rfl⟩ | ⟨rfl, rfl⟩
  all_goals
    go_wp2_with fail
    refine (wg_size k HW8.out (by simp)).mono ?_
    rintro e w9 ⟨rfl, o9, hw, _⟩
    have HW9 := Lib.hid hw
    clear hw HW8
    have hs := HS.out
    generalize ((sizI (List.range n) k : Nat) : Int) = sz at hs ⊢
    by_cases h0 : 0 ≤ k
    · by_cases h1 : k < (n : Int)
      · have e1 : decide (0 < sz) = true := by rw [hs]; exact decide_eq_true ⟨h0, h1⟩
        clear hs
        go_wp2_with fail
        go_ret
        exact ⟨rfl, grownBy_trans HG1.out HW9.out.gr⟩
      · have e1 : decide (0 < sz) = false := by rw [hs]; exact decide_eq_false (by omega)
        have e2 : decide (k < (n : Int)) = false := decide_eq_false h1
        clear hs h1
        go_wp2_with fail
        go_ret
        exact ⟨rfl, grownBy_trans HG1.out HW9.out.gr⟩
    · have e1 : decide (0 < sz) = false := by rw [hs]; exact decide_eq_false (by omega)
      clear hs
      go_wp2_with fail
      go_ret
      exact ⟨rfl, grownBy_trans HG1.out HW9.out.gr⟩

end Go.Proofs.Yteblcmebhfjbnaa
