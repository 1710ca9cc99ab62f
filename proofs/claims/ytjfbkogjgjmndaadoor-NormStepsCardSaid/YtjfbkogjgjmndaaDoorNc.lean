/- layout: single at a number's type. -/
import Derived.Test.YtjfbkogjgjmndaaDoorNb
namespace Go.Proofs.YtjfbkogjgjmndaaDoor
open Go.RowKit
theorem wid_le (k : Int) : 0 ≤ widthK k ∧ widthK k ≤ 8 := by unfold widthK; split <;> (try split) <;> (try split) <;> omega
set_option maxRecDepth 100000 in
set_option maxHeartbeats 4000000 in
theorem single_sc (r : Value) (k : Int) (hk : numK k = true) (w : World) (hv : VarsK w) :
    Calls Tryd.prog 19 #[r, scV k] w fun e w' => e = .returned (.tuple #[.int .i64 (widthK k), .int .i64 (widthK k), .int .i64 0]) ∧ w.grownBy w' none := by
  have HV := Lib.hid hv
  have HS := Lib.hid (fun w' hw' => Scalar_any k 0 ⟨#[]⟩ (.slice none 0 0) w' hw')
  have HW := Lib.hid (fun w' hw' => Width_any k 0 ⟨#[]⟩ (.slice none 0 0) w' hw')
  have HE := Lib.hid (show scaK k = true by unfold scaK; rw [hk]; rfl)
  have HB := Lib.hid (blk_new w (.cells #[.int .i64 k, .int .i64 0, .string ⟨#[]⟩, .slice none 0 0] 26))
  clear hv hk
  unfold scV tV at *
  generalize widthK k = z at *
  go_enter Tryd.func19, Tryd.ntmps19
  go_wp2_with fail
  refine (HS.out _ (HV.out.alloc _)).mono ?_
  rintro e w1 ⟨rfl, hg⟩
  rw [HE.out]
  obtain ⟨c0, c1, c2, c3, _⟩ := cells4_of ((hg.block _ (by simp) (by simp)).trans HB.out)
  have HG := Lib.hid (grownBy_trans (gr_alloc (grownBy_refl w none) _) hg)
  clear hg
  go_wp2_with fail
  refine (HW.out _ (HV.out.grown HG.out)).mono ?_
  rintro e w2 ⟨rfl, hg⟩
  have HG2 := Lib.hid (grownBy_trans HG.out hg)
  clear hg c0 c1 c2 c3
  go_wp2_with fail
  refine bodyPost_ret (v := .tuple #[.int .i64 z, .int .i64 z, .int .i64 0]) (by simp [results, Tryd.results19, go_sem]) rfl ⟨rfl, HG2.out⟩

end Go.Proofs.YtjfbkogjgjmndaaDoor
