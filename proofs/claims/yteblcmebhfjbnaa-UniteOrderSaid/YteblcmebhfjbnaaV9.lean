/- UniteOrder, walked. -/
import Derived.Test.YteblcmebhfjbnaaV3
import Derived.Test.YteblcmebhfjbnaaY7
import Derived.Deep.DeepCutAuto
import Derived.Deep.RegionWith
namespace Go.Proofs.Yteblcmebhfjbnaa
open Go.RowKit
set_option maxRecDepth 100000 in
set_option maxHeartbeats 4000000 in
theorem order_walk (n : Nat) (hn : n < 256) (A : Option Addr) (c : Nat) (l : List (Int × Int)) (w : World) (hA : StrAt prC 2 w A l) (hlc : l.length ≤ c) :
    Calls Try.prog 5 #[.int .u8 n, .slice A l.length c] w fun e w' => e = .returned (.bool true) ∧ w.grownBy w' none := by
  have HA0 := Lib.hid hA
  clear hA
  go_enter Try.func5, Try.ntmps5
  go_wp2_with fail
  refine (shown_any w).mono ?_
  rintro e w1 ⟨rfl, hg⟩
  have HG1 := Lib.hid hg
  have HA1 := Lib.hid (HA0.out.keep hg)
  clear hg HA0
  have hszn : szN (n : Int) = n := by unfold szN; rw [if_neg (by omega), if_neg (by omega), Int.toNat_natCast]
  go_wp2_with fail
  refine (wg_new n (Wd.first w1)).mono ?_
  rintro e w2 ⟨g, o2, rfl, hw, _⟩
  rw [hszn] at hw
  have HW2 := Lib.hid hw
  clear hw
  go_wp2_with fail
  refine (wg_new n HW2.out).mono ?_
  rintro e w3 ⟨h, o3, rfl, hw, _, _, hne⟩
  rw [hszn] at hw
  have HW3 := Lib.hid hw
  have hgh : g ≠ h := hne _ mem0
  clear hw HW2 hne hszn
  go_upto_if 27 with fail
  obtain ⟨m, hm⟩ : ∃ m, m = l.take 200 := ⟨_, rfl⟩
  have hml : m.length ≤ 200 := by rw [hm, List.length_take]; omega
  have HA := Lib.hid (show StrAt prC 2 w1 A m by rw [hm]; exact HA1.out.take 200)
  go_cut [8] (fun v wx => (∃ d : Nat, v = .slice A m.length d) ∧ wx = w3)
  case first =>
    by_cases h2 : 200 < l.length
    · have HM := Lib.hid (show m.length = 200 by rw [hm, List.length_take]; omega)
      obtain ⟨ad, rfl⟩ := HA1.out.some_ (show 0 < l.length by omega)
      clear hm
      go_wp2_with fail
      go_meet
      case rel => exact ⟨⟨c, by rw [HM.out]⟩, rfl⟩
    · have HM := Lib.hid (show m.length = l.length by rw [hm, List.length_take]; omega)
      clear hm
      go_wp2_with fail
      go_meet
      case rel => exact ⟨⟨c, by rw [HM.out]⟩, rfl⟩
  case rest =>
  obtain ⟨⟨d, rfl⟩, hwc⟩ := hcut
  have hwc' := hwc.symm
  subst hwc'
  clear hm hlc HA1
  go_wp2_with fail
  go_loopw [9] (fun i wr => ∃ (q : Nat) (own : Nat → Option Nat), q ≤ m.length ∧ i = .int .i64 q ∧ Wd w1 wr own [(g, foldJ (List.range n) (m.take q)), (h, foldJ (List.range n) ((m.reverse.take q).map swp2))]) (fun i _ => m.length - (intOf i).toNat)
  case atStart => exact ⟨0, o3, Nat.zero_le _, rfl, HW3.out.sub (by simp [foldJ])⟩
  case round =>
    obtain ⟨q, own, hq, rfl, hW⟩ := hrel
    have HW := Lib.hid hW
    clear hW HW3
    by_cases hlt : q < m.length
    · have HX := Lib.hid (show m[q]? = some m[q] from List.getElem?_eq_getElem hlt)
      generalize m[q] = p at HX
      obtain ⟨j, hj⟩ : ∃ j, j + q + 1 = m.length := ⟨m.length - 1 - q, by omega⟩
      have HJ := Lib.hid hj
      have hjl : j < m.length := by omega
      have HY := Lib.hid (show m[j]? = some m[j] from List.getElem?_eq_getElem hjl)
      generalize m[j] = r at HY
      obtain ⟨a, b⟩ := p
      obtain ⟨a2, b2⟩ := r
      obtain ⟨ad, rfl⟩ := HA.out.some_ hlt
      have HT1 := Lib.hid (show foldJ (List.range n) (m.take (q + 1)) = (joinG (foldJ (List.range n) (m.take q)) a b).1 by rw [List.take_add_one, HX.out]; exact foldJ_snoc _ _ _)
      have HT2 := Lib.hid (show foldJ (List.range n) ((m.reverse.take (q + 1)).map swp2) = (joinG (foldJ (List.range n) ((m.reverse.take q).map swp2)) b2 a2).1 by
        rw [List.take_add_one, rev_at HY.out hj, List.map_append]
        exact foldJ_snoc _ _ _)
      obtain ⟨hc1, hc2⟩ := pair_cells (HA.out.keep HW.out.gr) HX.out
      dsimp only at hc1 hc2
      generalize foldJ (List.range n) (m.take q) = G at *
      generalize foldJ (List.range n) ((m.reverse.take q).map swp2) = H at *
      have hw1 : IntKind.i64.wrap ((m.length : Int) - 1) = (m.length : Int) - 1 := IntWalk.i64_in _ (by omega)
      have hw2 : IntKind.i64.wrap ((m.length : Int) - 1 - (q : Int)) = (j : Int) := by rw [IntWalk.i64_in _ (by omega)]; omega
      clear hj
      go_upto_region 12 with fail
      go_cut [47] (fun _ wx => ∃ own', Wd w1 wx own' [(g, (joinG G a b).1), (h, H)])
      case first =>
        have HJO := Lib.hid (fun (W : World) (hW : wr.grownBy W none) => wg_join a b (HW.out.keep hW) (by simp [Ne.symm hgh]))
        have hdr : wr.grownBy wr.drew none := (grownBy_refl wr none).gr_drew
        go_region_with (go_at_call 13; refine (HJO.out _ (by assumption)).mono ?_; rintro e' wz ⟨rfl, o5, hw, hx⟩)
        all_goals
          go_wp2_with fail
          go_meet
          case rel => exact ⟨o5, hw⟩
      case rest =>
      obtain ⟨o5, hw⟩ := hcut
      have HW5 := Lib.hid (hw.sub (M := [(h, H), (g, (joinG G a b).1)]) (by simp))
      clear hw hc1 hc2 HW
      obtain ⟨hc1, hc2⟩ := pair_cells (HA.out.keep HW5.out.gr) HY.out
      dsimp only at hc1 hc2
      go_upto_region 13 with fail
      have HJO := Lib.hid (fun (W : World) (hW : wc.grownBy W none) => wg_join b2 a2 (HW5.out.keep hW) (by simp [hgh]))
      have hdr : wc.grownBy wc.drew none := (grownBy_refl wc none).gr_drew
      go_region_with (go_at_call 13; refine (HJO.out _ (by assumption)).mono ?_; rintro e' wz ⟨rfl, o6, hw, hx⟩)
      all_goals
        have HW6 := Lib.hid hw
        clear hw hc1 hc2 HW5 hw1 hw2 hx hdr HJO
        go_wp2_with fail
        go_roundw
        case rel => exact ⟨q + 1, o6, hlt, by go_num, by rw [HT1.out, HT2.out]; exact HW6.out.sub (by simp)⟩
        case measure => simp [intOf]; omega
    · have HE := Lib.hid (show foldJ (List.range n) ((m.reverse.take q).map swp2) = foldJ (List.range n) (m.take q) by
        rw [List.take_of_length_le (by rw [List.length_reverse]; omega), List.take_of_length_le (l := m) (by omega)]
        exact (foldJ_both n m).symm)
      rw [HE.out] at HW
      generalize foldJ (List.range n) (m.take q) = G at *
      clear HE
      go_wp2_with fail
      go_loopw [10] (fun i wr => ∃ (z : Nat) (own : Nat → Option Nat), z ≤ n ∧ i = .int .i64 z ∧ Wd w1 wr own [(g, G), (h, G)]) (fun i _ => n - (intOf i).toNat)
      case atStart => exact ⟨0, own, Nat.zero_le _, rfl, HW.out⟩
      case round =>
        obtain ⟨z, own2, hz, rfl, hW⟩ := hrel
        have HW2 := Lib.hid hW
        clear hW HW
        by_cases hzn : z < n
        · go_wp2_with fail
          refine (wg_find z HW2.out (by simp [Ne.symm hgh])).mono ?_
          rintro e w4 ⟨rfl, o4, hw, _⟩
          have HW4 := Lib.hid (hw.sub (M := [(h, G), (g, G)]) (by simp))
          clear hw HW2
          generalize hfi : findI G z = v
          have HFI := Lib.hid hfi
          clear hfi
          go_wp2_with fail
          refine (wg_find z HW4.out (by simp [hgh])).mono ?_
          rintro e w5 ⟨rfl, o5, hw, _⟩
          rw [HFI.out]
          have HW5 := Lib.hid (hw.sub (M := [(g, G), (h, G)]) (by simp))
          clear hw HW4 HFI
          go_wp2_with fail
          refine (wg_size z HW5.out (by simp [Ne.symm hgh])).mono ?_
          rintro e w6 ⟨rfl, o6, hw, _⟩
          have HW6 := Lib.hid (hw.sub (M := [(h, G), (g, G)]) (by simp))
          clear hw HW5
          generalize hfi : sizI G z = v
          have HFI := Lib.hid hfi
          clear hfi
          go_wp2_with fail
          refine (wg_size z HW6.out (by simp [hgh])).mono ?_
          rintro e w7 ⟨rfl, o7, hw, _⟩
          rw [HFI.out]
          have HW7 := Lib.hid (hw.sub (M := [(g, G), (h, G)]) (by simp))
          clear hw HW6 HFI
          go_wp2_with fail
          go_roundw
          case rel => exact ⟨z + 1, o7, hzn, by go_num, HW7.out⟩
          case measure => simp [intOf]; omega
        · go_wp2_with fail
          refine (wg_count HW2.out mem0).mono ?_
          rintro e w4 ⟨rfl, hg⟩
          have HW4 := Lib.hid (HW2.out.keep hg)
          clear hg HW2
          generalize hfi : cntG G = v
          have HFI := Lib.hid hfi
          clear hfi
          go_wp2_with fail
          refine (wg_count HW4.out mem1).mono ?_
          rintro e w5 ⟨rfl, hg⟩
          rw [HFI.out]
          have HW5 := Lib.hid (HW4.out.keep hg)
          clear hg HW4 HFI
          go_wp2_with fail
          go_ret
          exact ⟨rfl, grownBy_trans HG1.out HW5.out.gr⟩

end Go.Proofs.Yteblcmebhfjbnaa
