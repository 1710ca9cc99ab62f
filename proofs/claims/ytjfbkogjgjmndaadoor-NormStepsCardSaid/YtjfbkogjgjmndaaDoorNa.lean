/- ctype: Scalar. -/
import Derived.Test.YtjfbkogjgjmndaaDoorC1
namespace Go.Proofs.YtjfbkogjgjmndaaDoor
open Go.RowKit
def scaK (k : Int) : Bool := numK k || k == 5
set_option maxRecDepth 100000 in
set_option maxHeartbeats 2000000 in
theorem Scalar_any (k n : Int) (s : ByteArray) (v : Value) (w : World) (hv : VarsK w) :
    Calls Tryd.prog 23 #[tV k n s v] w fun e w' => e = .returned (.bool (scaK k)) ∧ w.grownBy w' none := by
  have HV := Lib.hid hv
  clear hv
  have HN := fun w' hw' => Number_any k n s v w' hw'
  unfold scaK
  generalize numK k = b at *
  unfold tV at *
  cases b with
  | true =>
    go_enter Tryd.func23, Tryd.ntmps23
    go_wp2_with fail
    refine (HN _ (HV.out.alloc _)).mono ?_
    rintro e w1 ⟨rfl, hg⟩
    have HG := Lib.hid hg
    clear hg
    go_wp2_with fail
    go_ret
    exact ⟨rfl, grownBy_trans (by repeat (first | with_reducible exact grownBy_refl _ _ | with_reducible assumption | with_reducible refine World.grownBy.gr_drew ?_ | with_reducible refine World.grownBy.gr_set ?_ (by simp) _ | with_reducible refine gr_alloc ?_ _)) HG.out⟩
  | false =>
    go_enter Tryd.func23, Tryd.ntmps23
    go_wp2_with fail
    refine (HN _ (HV.out.alloc _)).mono ?_
    rintro e w1 ⟨rfl, hg⟩
    have hb : w1.cell? ⟨w.heap.size, 0, none⟩ = some (.int .i64 k) := hg.cell (by simp) (by simp)
    have HG := Lib.hid hg
    clear hg
    go_wp2_with fail
    go_ret
    exact ⟨by simp, grownBy_trans (by repeat (first | with_reducible exact grownBy_refl _ _ | with_reducible assumption | with_reducible refine World.grownBy.gr_drew ?_ | with_reducible refine World.grownBy.gr_set ?_ (by simp) _ | with_reducible refine gr_alloc ?_ _)) HG.out⟩

end Go.Proofs.YtjfbkogjgjmndaaDoor
