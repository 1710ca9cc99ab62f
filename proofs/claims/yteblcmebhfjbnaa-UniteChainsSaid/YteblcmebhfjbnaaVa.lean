/- UniteChains, walked. -/
import Derived.Test.YteblcmebhfjbnaaV3
import Derived.Test.YteblcmebhfjbnaaY8
import Derived.Deep.DeepCutAuto
namespace Go.Proofs.Yteblcmebhfjbnaa
open Go.RowKit
set_option maxRecDepth 100000 in
set_option maxHeartbeats 4000000 in
theorem chains_walk (n fr tt : Nat) (hn : n < 256) (hfr : fr < 256) (htt : tt < 256) (down : Bool) (w : World) :
    Calls Try.prog 7 #[.int .u8 n, .int .u8 fr, .int .u8 tt, .bool down] w fun e w' => e = .returned (.bool true) ∧ w.grownBy w' none := by
  obtain ⟨K, hK⟩ : ∃ K, K = 1 + n := ⟨_, rfl⟩
  obtain ⟨a, ha⟩ : ∃ a, a = fr % K := ⟨_, rfl⟩
  have haK : a < K := by rw [ha]; exact Nat.mod_lt _ (by omega)
  obtain ⟨s, hs⟩ : ∃ s, s = tt % (K - a) := ⟨_, rfl⟩
  have hsK : s < K - a := by rw [hs]; exact Nat.mod_lt _ (by omega)
  have HK := Lib.hid (show (1 : Int) + (n : Int) = (K : Int) by omega)
  have hrem1 : (fr : Int).tmod (K : Int) = (a : Int) := by rw [ha]; exact (Int.ofNat_tmod fr K).symm
  have hrem2 : (tt : Int).tmod ((K : Int) - (a : Int)) = (s : Int) := by
    rw [hs, show (K : Int) - (a : Int) = ((K - a : Nat) : Int) by omega]
    exact (Int.ofNat_tmod tt (K - a)).symm
  have hKb : K ≤ 256 := by omega
  have hszn : szN (K : Int) = K := by unfold szN; rw [if_neg (by omega), if_neg (by omega), Int.toNat_natCast]
  clear ha hs hK
  go_enter Try.func7, Try.ntmps7
  go_wp2_with fail
  refine (shown_any w).mono ?_
  rintro e w1 ⟨rfl, hg⟩
  have HG1 := Lib.hid hg
  clear hg
  go_wp2_with fail
  rw [HK.out]
  refine (wg_new K (Wd.first w1)).mono ?_
  rintro e w2 ⟨m, o2, rfl, hw, _⟩
  rw [hszn, ← chG_first K a] at hw
  have HW2 := Lib.hid hw
  clear hw hszn
  go_wp2_with fail
  clear hrem1 hrem2 HK hn hfr htt
  obtain ⟨b, hb⟩ : ∃ b, b = a + s := ⟨_, rfl⟩
  rw [show (a : Int) + (s : Int) = (b : Int) by omega]
  have hab : a ≤ b ∧ b < K := by omega
  clear hb hsK
  cases down
  · go_loopw [14] (fun i wr => ∃ (q : Nat) (own : Nat → Option Nat), a ≤ q ∧ q ≤ b ∧ i = .int .i64 q ∧ Wd w1 wr own [(m, chG K a q)]) (fun i _ => b - (intOf i).toNat)
    case atStart => exact ⟨a, o2, by omega, by omega, rfl, HW2.out⟩
    case round =>
      obtain ⟨q, o, hq1, hq2, rfl, hW⟩ := hrel
      have HWL := Lib.hid hW
      clear hW HW2
      by_cases hlt : q < b
      · have HJ := Lib.hid (chG_up (k := K) (lo := a) (hi := q) hq1 (by omega))
        obtain ⟨q1, hq⟩ : ∃ q1, q1 = q + 1 := ⟨_, rfl⟩
        rw [← hq] at HJ
        have hw1 : IntKind.i64.wrap ((q : Int) + 1) = (q1 : Int) := by rw [IntWalk.i64_in _ (by omega)]; omega
        have HQ := Lib.hid hq
        clear hq
        go_wp2_with fail
        refine (wg_join q q1 HWL.out (by simp)).mono ?_
        rintro e w4 ⟨rfl, o4, hw, _⟩
        rw [HJ.out] at hw ⊢
        have HW4 := Lib.hid (show Wd w1 w4 o4 [(m, chG K a q1)] from hw)
        clear hw HWL
        go_wp2_with fail
        go_roundw
        case rel => exact ⟨q1, o4, by have := HQ.out; omega, by have := HQ.out; omega, rfl, HW4.out⟩
        case measure => simp [intOf]; have := HQ.out; omega
      · obtain rfl : q = b := by omega
        go_wp2_with fail
        go_loopw [16] (fun i wr => ∃ (z : Nat) (own : Nat → Option Nat), a ≤ z ∧ z ≤ q + 1 ∧ i = .int .i64 z ∧ Wd w1 wr own [(m, chG K a q)]) (fun i _ => q + 1 - (intOf i).toNat)
        case atStart => exact ⟨a, o, by omega, by omega, rfl, HWL.out⟩
        case round =>
          obtain ⟨z, own2, hz1, hz2, rfl, hW⟩ := hrel
          have HW2 := Lib.hid hW
          clear hW HWL
          by_cases hzb : z ≤ q
          · have hfs := chG_siz (k := K) hz1 hzb (by omega)
            have hw1 : IntKind.i64.wrap ((q : Int) - (a : Int)) = (q : Int) - (a : Int) := IntWalk.i64_in _ (by omega)
            have hw2 : IntKind.i64.wrap ((q : Int) - (a : Int) + 1) = ((q - a + 1 : Nat) : Int) := by rw [IntWalk.i64_in _ (by omega)]; omega
            go_wp2_with fail
            refine (wg_find z HW2.out (by simp)).mono ?_
            rintro e w4 ⟨rfl, o4, hw, _⟩
            rw [hfs.1]
            have HW4 := Lib.hid hw
            clear hw HW2
            go_wp2_with fail
            refine (wg_size z HW4.out (by simp)).mono ?_
            rintro e w5 ⟨rfl, o5, hw, _⟩
            rw [hfs.2]
            have HW5 := Lib.hid hw
            clear hw HW4 hfs
            go_wp2_with fail
            go_roundw
            case rel => exact ⟨z + 1, o5, by omega, by omega, by go_num, HW5.out⟩
            case measure => simp [intOf]; omega
          · have hcn := chG_cnt (k := K) (lo := a) (hi := q) (by omega) (by omega)
            go_wp2_with fail
            refine (wg_count HW2.out mem0).mono ?_
            rintro e w4 ⟨rfl, hg⟩
            have HW4 := Lib.hid (HW2.out.keep hg)
            clear hg HW2
            generalize cntG (chG K a q) = v at *
            have hw1 : IntKind.i64.wrap ((q : Int) - (a : Int)) = (q : Int) - (a : Int) := IntWalk.i64_in _ (by omega)
            have hw2 : IntKind.i64.wrap ((K : Int) - ((q : Int) - (a : Int))) = (v : Int) := by rw [IntWalk.i64_in _ (by omega)]; omega
            clear hcn
            go_wp2_with fail
            go_ret
            exact ⟨rfl, grownBy_trans HG1.out HW4.out.gr⟩
  · go_loopw [14] (fun i wr => ∃ (q lo : Nat) (own : Nat → Option Nat), a ≤ q ∧ q + lo = a + b ∧ a ≤ lo ∧ lo ≤ b ∧ i = .int .i64 q ∧ Wd w1 wr own [(m, chG K lo b)]) (fun i _ => b - (intOf i).toNat)
    case atStart => exact ⟨a, b, o2, by omega, by omega, by omega, by omega, rfl, by rw [chG_first K b, ← chG_first K a]; exact HW2.out⟩
    case round =>
      obtain ⟨q, lo, o, hq1, hq2, hlo1, hlo2, rfl, hW⟩ := hrel
      have HWL := Lib.hid hW
      clear hW HW2
      by_cases hlt : q < b
      · obtain ⟨j, hj⟩ : ∃ j, lo = j + 1 := ⟨lo - 1, by omega⟩
        have HJ := Lib.hid (chG_down (k := K) (lo := j) (hi := b) (by omega) (by omega))
        rw [← hj] at HJ
        have hw1 : IntKind.i64.wrap ((a : Int) + (b : Int)) = (a : Int) + (b : Int) := IntWalk.i64_in _ (by omega)
        have hw2 : IntKind.i64.wrap ((a : Int) + (b : Int) - 1) = (a : Int) + (b : Int) - 1 := IntWalk.i64_in _ (by omega)
        have hw3 : IntKind.i64.wrap ((a : Int) + (b : Int) - 1 - (q : Int)) = (j : Int) := by rw [IntWalk.i64_in _ (by omega)]; omega
        have hw4 : IntKind.i64.wrap ((j : Int) + 1) = (lo : Int) := by rw [IntWalk.i64_in _ (by omega)]; omega
        have HQ := Lib.hid hj
        clear hj
        go_wp2_with fail
        refine (wg_join j lo HWL.out (by simp)).mono ?_
        rintro e w4 ⟨rfl, o4, hw, _⟩
        rw [HJ.out] at hw ⊢
        have HW4 := Lib.hid (show Wd w1 w4 o4 [(m, chG K j b)] from hw)
        clear hw HWL hw1 hw2 hw3 hw4
        go_wp2_with fail
        go_roundw
        case rel => exact ⟨q + 1, j, o4, by omega, by have := HQ.out; omega, by have := HQ.out; omega, by have := HQ.out; omega, by go_num, HW4.out⟩
        case measure => simp [intOf]; omega
      · obtain rfl : lo = a := by omega
        go_wp2_with fail
        go_loopw [16] (fun i wr => ∃ (z : Nat) (own : Nat → Option Nat), lo ≤ z ∧ z ≤ b + 1 ∧ i = .int .i64 z ∧ Wd w1 wr own [(m, chG K lo b)]) (fun i _ => b + 1 - (intOf i).toNat)
        case atStart => exact ⟨lo, o, by omega, by omega, rfl, HWL.out⟩
        case round =>
          obtain ⟨z, own2, hz1, hz2, rfl, hW⟩ := hrel
          have HW2 := Lib.hid hW
          clear hW HWL
          by_cases hzb : z ≤ b
          · have hfs := chG_siz (k := K) hz1 hzb (by omega)
            have hw1 : IntKind.i64.wrap ((b : Int) - (lo : Int)) = (b : Int) - (lo : Int) := IntWalk.i64_in _ (by omega)
            have hw2 : IntKind.i64.wrap ((b : Int) - (lo : Int) + 1) = ((b - lo + 1 : Nat) : Int) := by rw [IntWalk.i64_in _ (by omega)]; omega
            go_wp2_with fail
            refine (wg_find z HW2.out (by simp)).mono ?_
            rintro e w4 ⟨rfl, o4, hw, _⟩
            rw [hfs.1]
            have HW4 := Lib.hid hw
            clear hw HW2
            go_wp2_with fail
            refine (wg_size z HW4.out (by simp)).mono ?_
            rintro e w5 ⟨rfl, o5, hw, _⟩
            rw [hfs.2]
            have HW5 := Lib.hid hw
            clear hw HW4 hfs
            go_wp2_with fail
            go_roundw
            case rel => exact ⟨z + 1, o5, by omega, by omega, by go_num, HW5.out⟩
            case measure => simp [intOf]; omega
          · have hcn := chG_cnt (k := K) (lo := lo) (hi := b) (by omega) (by omega)
            go_wp2_with fail
            refine (wg_count HW2.out mem0).mono ?_
            rintro e w4 ⟨rfl, hg⟩
            have HW4 := Lib.hid (HW2.out.keep hg)
            clear hg HW2
            generalize cntG (chG K lo b) = v at *
            have hw1 : IntKind.i64.wrap ((b : Int) - (lo : Int)) = (b : Int) - (lo : Int) := IntWalk.i64_in _ (by omega)
            have hw2 : IntKind.i64.wrap ((K : Int) - ((b : Int) - (lo : Int))) = (v : Int) := by rw [IntWalk.i64_in _ (by omega)]; omega
            clear hcn
            go_wp2_with fail
            go_ret
            exact ⟨rfl, grownBy_trans HG1.out HW4.out.gr⟩

end Go.Proofs.Yteblcmebhfjbnaa
