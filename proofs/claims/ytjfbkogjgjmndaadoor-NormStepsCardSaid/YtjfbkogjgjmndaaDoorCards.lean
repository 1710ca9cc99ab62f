/-
  DERIVED. GIVEN WITH THE SEED: THE CARDS: each row of YtjfbkogjgjmndaaDoorRows.lean that lists a variable, with what it lists TIED to the program's text (the seventh form; the later family's looks); each row that meets fmt, with fmt's text TOLD by the authors' own Lean function (tested against real Go, not proved from fmt's source: count such statements apart). THE CARD IS WHAT COUNTS. Prove the row's statement (the work); the ties are given (YtjfbkogjgjmndaaDoorTie.lean); close each card by the builder's one call (the guide's Derived/Test/ToyasCard.lean, 'card_holds'). Laid BY PROGRAM, IN A SANDBOX (cutbox-door.mjs). By AI agents, Wed Nov 11 2026. No macro, syntax, notation, axiom, sorry.
-/
import Derived.Test.YtjfbkogjgjmndaaDoorRows
import GoSem.ClaimSeven
namespace Go.Proofs.YtjfbkogjgjmndaaDoor
namespace Rows

/-- THE TIED CARD OF 'crosstreelaw06.NormSteps'. -/
def normStepsCard : Claim7 := { stood := { row := normStepsRow, standIns := [], harness := (true, "a3788fece8e517679f3745a503b2234428f0997e2aa59c099bd77a66e1a1dd56"), looks := false }, kinds := [], alts := [], laidByText := true, laidKinds := [.data], laidTests := true, laidLooks := .later }
def NormStepsCardSaid : Prop := Claim7.holds Tryd.pinned (.plain (OpenSpec.ofChange normStepsSpec)) normStepsCard

/-- THE SECOND FORM's CARD OF 'crosstreelaw06.NormSteps'. -/
def normStepsUptoCard : Claim7 := { stood := { row := normStepsUptoRow, standIns := [], harness := (true, "a3788fece8e517679f3745a503b2234428f0997e2aa59c099bd77a66e1a1dd56"), looks := false }, kinds := [], alts := [], laidByText := true, laidKinds := [.data], laidTests := true, laidLooks := .later }
def NormStepsUptoCardSaid : Prop := Claim7.holds Tryd.pinned (.plain (OpenSpec.upto normStepsSpec)) normStepsUptoCard
end Rows
end Go.Proofs.YtjfbkogjgjmndaaDoor
