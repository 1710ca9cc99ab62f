/- What all laws of stage 2 stand on. -/
import Derived.Test.YtkbplcfehllbjaaGreatDoorMk23
namespace Go.Proofs.YtkbplcfehllbjaaGreatDoor
open Go.RowKit
theorem base_stands : True := trivial

end Go.Proofs.YtkbplcfehllbjaaGreatDoor
