/- UniteJoins, walked. -/
import Derived.Test.YteblcmebhfjbnaaV3
import Derived.Deep.DeepCutAuto
import Derived.Deep.RegionWith
namespace Go.Proofs.Yteblcmebhfjbnaa
open Go.RowKit
set_option maxRecDepth 100000 in
set_option maxHeartbeats 4000000 in
theorem joins_walk (n i : Int) (A : Option Addr) (c : Nat) (l : List (Int × Int)) (w : World) (hA : StrAt prC 2 w A l) :
    Calls Try.prog 3 #[.int .i64 n, .slice A l.length c, .int .i64 i] w fun e w' => e = .returned (.bool true) ∧ w.grownBy w' none := by
  have HA0 := Lib.hid hA
  clear hA
  go_enter Try.func3, Try.ntmps3
  go_wp2_with fail
  refine (shown_any w).mono ?_
  rintro e w1 ⟨rfl, hg⟩
  have HG1 := Lib.hid hg
  have HA := Lib.hid (HA0.out.keep hg)
  clear hg HA0
  go_upto_if 16 with fail
  go_cut [0] (fun v wx => (∃ N : Int, v = .int .i64 N ∧ N ≤ 400) ∧ wx = w1)
  case first =>
    by_cases h : 400 < n
    · go_wp2_with fail
      go_meet
      case rel => exact ⟨⟨400, rfl, by omega⟩, rfl⟩
    · go_wp2_with fail
      go_meet
      case rel => exact ⟨⟨n, rfl, by omega⟩, rfl⟩
  case rest =>
  obtain ⟨⟨N, rfl, hN⟩, hwc⟩ := hcut
  have hwc' := hwc.symm
  subst hwc'
  have hS : szN N ≤ 400 := by unfold szN; split <;> (try split) <;> omega
  go_wp2_with fail
  refine (wg_new N (Wd.first w1)).mono ?_
  rintro e w2 ⟨m, o2, rfl, hw, _⟩
  have HW2 := Lib.hid hw
  clear hw
  go_wp2_with fail
  refine (r14_New_any N w2).mono ?_
  rintro e w3 ⟨B, k, d, rfl, hI, hg, hB⟩
  have HW3 := Lib.hid (HW2.out.keep hg)
  have HL3 := Lib.hid (Ls.made HW2.out hI hB)
  clear hI hg hB HW2
  go_wp2_with fail
  go_loopw [10, 9] (fun i r wr => ∃ (q : Nat) (own : Nat → Option Nat) (B : Option Addr) (k d : Nat) (G : List Nat), q ≤ l.length ∧ q ≤ 400 ∧ i = .int .i64 q ∧ r = .slice B k d ∧ G.length ≤ 400 ∧ Ls wr own B k d (intsN G) ∧ Wd w1 wr own [(m, G)]) (fun i _ _ => l.length - (intOf i).toNat)
  case atStart => exact ⟨0, o2, B, k, d, _, Nat.zero_le _, Nat.zero_le _, rfl, rfl, by rw [List.length_range]; exact hS, HL3.out, HW3.out⟩
  case round =>
    obtain ⟨q, own, B', k', d', G, hq, hq4, rfl, rfl, hG, hL, hW⟩ := hrel
    have HL := Lib.hid hL
    have HW := Lib.hid hW
    clear hL hW HL3 HW3
    by_cases hlt : q < l.length ∧ q < 400
    · have HX := Lib.hid (show l[q]? = some l[q] from List.getElem?_eq_getElem hlt.1)
      generalize l[q] = p at HX
      obtain ⟨a, b⟩ := p
      obtain ⟨ad, rfl⟩ := HA.out.some_ hlt.1
      obtain ⟨hlt1, hlt2⟩ := hlt
      have hc := pair_cells (HA.out.keep HW.out.gr) HX.out
      obtain ⟨hc1, hc2⟩ := hc
      dsimp only at hc1 hc2
      have HJL := Lib.hid (joinG_len G a b)
      go_upto_region 11 with fail
      go_cut [11, 12] (fun r f wx => f = .bool (joinG G a b).2 ∧ ∃ (C : Option Addr) (j e : Nat), r = .slice C j e ∧ Ls wx own C j e (intsN (joinG G a b).1) ∧ wr.grownBy wx none)
      case first =>
        have HJ := Lib.hid (fun (W : World) (hW : wr.grownBy W none) => r14_Join_any B' k' d' G a b W (HL.out.keep hW).1 (by omega))
        have hdr : wr.grownBy wr.drew none := (grownBy_refl wr none).gr_drew
        go_region_with (go_at_call 12; refine (HJ.out _ (by assumption)).mono ?_; rintro e wz ⟨C, j, e, rfl, hI, hg, hC⟩)
        all_goals
          go_wp2_with fail
          go_meet
          case rel => exact ⟨rfl, _, _, _, rfl, Ls.made2 (HW.out.keep hdr) (HL.out.keep hdr) hI (fun ad e => (hC ad e).imp id fun h => ⟨h.1, by rw [h.2]⟩), grownBy_trans hdr hg⟩
      case rest =>
      obtain ⟨rfl, C, j, e, rfl, hL, hg⟩ := hcut
      have HL4 := Lib.hid hL
      have HW4 := Lib.hid (HW.out.keep hg)
      clear hL hg HL HW hc1 hc2
      obtain ⟨hc1, hc2⟩ := pair_cells (HA.out.keep HW4.out.gr) HX.out
      dsimp only at hc1 hc2
      obtain ⟨J, hJ⟩ : ∃ J, J = joinG G a b := ⟨_, rfl⟩
      rw [← hJ] at HL4 HJL ⊢
      have HJJ := Lib.hid hJ
      clear hJ
      go_upto_region 13 with fail
      go_cut [62] (fun f wx => f = .bool false ∧ ∃ own', Wd w1 wx own' [(m, J.1)] ∧ Ls wx own' C j e (intsN J.1))
      case first =>
        have HJO := Lib.hid (fun (W : World) (hW : wc.grownBy W none) => wg_join a b (HW4.out.keep hW) (by simp))
        have hdr : wc.grownBy wc.drew none := (grownBy_refl wc none).gr_drew
        go_region_with (go_at_call 13; refine (HJO.out _ (by assumption)).mono ?_; rintro e' wz ⟨rfl, o5, hw, hx⟩)
        all_goals
          go_wp2_with fail
          go_meet
          case rel => exact ⟨by rw [← HJJ.out]; cases J.2 <;> rfl, o5, by rw [HJJ.out]; exact hw, (HL4.out.keep hdr).ext hx⟩
      case rest =>
      obtain ⟨rfl, o5, hw, hL⟩ := hcut
      have HW5 := Lib.hid hw
      have HL5 := Lib.hid hL
      clear hw hL HL4 HW4 hc1 hc2
      go_wp2_with fail
      go_roundw
      case rel => exact ⟨q + 1, o5, C, j, e, J.1, by omega, by omega, by go_num, rfl, by have := HJL.out; omega, HL5.out, HW5.out⟩
      case measure => simp [intOf]; omega
    · obtain rfl : k' = G.length := by rw [HL.out.1.1, intsN_len]
      have hends : (l.length ≤ q) ∨ (q < l.length ∧ 400 ≤ q) := by omega
      clear hlt
      rcases hends with h1 | ⟨h1, h2⟩
      all_goals
        go_wp2_with fail
        go_loopw [13] (fun i wr => ∃ (z : Int) (own : Nat → Option Nat), -1 ≤ z ∧ z ≤ (G.length : Int) + 1 ∧ i = .int .i64 z ∧ Ls wr own B' G.length d' (intsN G) ∧ Wd w1 wr own [(m, G)]) (fun i _ => ((G.length : Int) + 1 - intOf i).toNat)
        case atStart => exact ⟨-1, own, by omega, by omega, rfl, HL.out, HW.out⟩
        case round =>
          obtain ⟨z, own2, hz1, hz2, rfl, hL, hW⟩ := hrel
          have HL2 := Lib.hid hL
          have HW2 := Lib.hid hW
          clear hL hW HL HW
          by_cases hz : z ≤ (G.length : Int)
          · go_wp2_with fail
            refine (wg_find z HW2.out (by simp)).mono ?_
            rintro e w4 ⟨rfl, o4, hw, hx⟩
            have HW4 := Lib.hid hw
            have HL4 := Lib.hid (HL2.out.ext hx)
            clear hw hx HW2 HL2
            generalize hfi : findI G z = v
            have HFI := Lib.hid hfi
            clear hfi
            go_wp2_with fail
            refine (r14_Find_any B' G.length d' G z w4 HL4.out.1).mono ?_
            rintro e w5 ⟨rfl, rfl⟩
            rw [HFI.out]
            go_wp2_with fail
            go_roundw
            case rel => exact ⟨z + 1, o4, by omega, by omega, by go_num, HL4.out, HW4.out⟩
            case measure => simp [intOf]; omega
          · go_wp2_with fail
            refine (wg_len HW2.out mem0).mono ?_
            rintro e w4 ⟨rfl, hg⟩
            have HW4 := Lib.hid (HW2.out.keep hg)
            have HL4 := Lib.hid (HL2.out.keep hg)
            clear hg HW2 HL2
            go_wp2_with fail
            refine (wg_count HW4.out mem0).mono ?_
            rintro e w5 ⟨rfl, hg⟩
            have HW5 := Lib.hid (HW4.out.keep hg)
            have HL5 := Lib.hid (HL4.out.keep hg)
            clear hg HW4 HL4
            generalize hfi : cntG G = v
            have HFI := Lib.hid hfi
            clear hfi
            go_wp2_with fail
            refine (r14_Count_any B' G.length d' G w5 HL5.out.1 (by omega)).mono ?_
            rintro e w6 ⟨rfl, rfl⟩
            rw [HFI.out]
            go_wp2_with fail
            refine (wg_size i HW5.out (by simp)).mono ?_
            rintro e w7 ⟨rfl, o7, hw, hx⟩
            have HW7 := Lib.hid hw
            have HL7 := Lib.hid (HL5.out.ext hx)
            clear hw hx HW5 HL5 HFI
            generalize hfi : sizI G i = v
            have HFI := Lib.hid hfi
            clear hfi
            go_wp2_with fail
            refine (r14_Size_any B' G.length d' G i w7 HL7.out.1 (by omega)).mono ?_
            rintro e w8 ⟨rfl, rfl⟩
            rw [HFI.out]
            go_wp2_with fail
            refine (wg_find i HW7.out (by simp)).mono ?_
            rintro e w9 ⟨rfl, o9, hw, hx⟩
            have HW9 := Lib.hid hw
            have HL9 := Lib.hid (HL7.out.ext hx)
            clear hw hx HW7 HL7 HFI
            generalize hfi : findI G i = v
            have HFI := Lib.hid hfi
            clear hfi
            go_wp2_with fail
            refine (r14_Find_any B' G.length d' G i w9 HL9.out.1).mono ?_
            rintro e wa ⟨rfl, rfl⟩
            rw [HFI.out]
            go_wp2_with fail
            go_ret
            exact ⟨rfl, grownBy_trans HG1.out HW9.out.gr⟩

end Go.Proofs.Yteblcmebhfjbnaa
