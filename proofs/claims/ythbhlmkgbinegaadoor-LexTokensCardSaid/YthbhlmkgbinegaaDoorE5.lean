/- The document's answer: signs. -/
import Derived.Test.YthbhlmkgbinegaaDoorE3
namespace Go.Proofs.YthbhlmkgbinegaaDoor
open Go.RowKit
set_option maxHeartbeats 1000000 in
theorem rSigns (w : World) :
    Calls Tryd.prog 50 #[] w fun e w' => e = .returned (.slice (some ⟨w.heap.size, 0, none⟩) 29 29) ∧ StrRow w' w.heap.size opL ∧ Below w.heap.size w w' := by
  go_enter Tryd.func50, Tryd.ntmps50
  go_wp2_with fail
  go_ret
  exact ⟨rfl, strRow_new w opL 9 (0, 0), below_new _⟩
end Go.Proofs.YthbhlmkgbinegaaDoor
