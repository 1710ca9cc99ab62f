/- unite: shown. -/
import Derived.Test.YteblcmebhfjbnaaV5
namespace Go.Proofs.Yteblcmebhfjbnaa
open Go.RowKit
theorem sh14a : List.range (szN 4) = [0, 1, 2, 3] := by decide +kernel
theorem sh14b : joinG [0, 1, 2, 3] 3 1 = ([0, 1, 2, 1], true) := by decide +kernel
theorem sh14c : joinG [0, 1, 2, 1] 1 3 = ([0, 1, 2, 1], false) := by decide +kernel
theorem sh14d : findI [0, 1, 2, 1] 3 = 1 := by decide +kernel
theorem sh14e : cntG [0, 1, 2, 1] = 3 := by decide +kernel
set_option maxRecDepth 100000 in
set_option maxHeartbeats 4000000 in
theorem shown_any (w : World) :
    Calls Try.prog 9 #[] w fun e w' => e = .returned (.bool true) ∧ w.grownBy w' none := by
  go_enter Try.func9, Try.ntmps9
  go_wp2_with fail
  refine (wg_new 4 (Wd.first w)).mono ?_
  rintro e w1 ⟨m, o1, rfl, hw, _⟩
  rw [sh14a] at hw
  have HW1 := Lib.hid hw
  clear hw
  go_wp2_with fail
  refine (wg_join 3 1 HW1.out (by simp)).mono ?_
  rintro e w2 ⟨rfl, o2, hw, _⟩
  rw [sh14b] at hw ⊢
  have HW2 := Lib.hid (show Wd w w2 o2 [(m, [0, 1, 2, 1])] from hw)
  clear hw HW1
  go_wp2_with fail
  refine (wg_join 1 3 HW2.out (by simp)).mono ?_
  rintro e w3 ⟨rfl, o3, hw, _⟩
  rw [sh14c] at hw ⊢
  have HW3 := Lib.hid (show Wd w w3 o3 [(m, [0, 1, 2, 1])] from hw)
  clear hw HW2
  go_wp2_with fail
  refine (wg_find 3 HW3.out (by simp)).mono ?_
  rintro e w4 ⟨rfl, o4, hw, _⟩
  rw [sh14d]
  have HW4 := Lib.hid hw
  clear hw HW3
  go_wp2_with fail
  refine (wg_count HW4.out mem0).mono ?_
  rintro e w5 ⟨rfl, hg⟩
  rw [sh14e]
  have HW5 := Lib.hid (HW4.out.keep hg)
  clear hg HW4
  go_wp2_with fail
  go_ret
  exact ⟨rfl, HW5.out.gr⟩

end Go.Proofs.Yteblcmebhfjbnaa
