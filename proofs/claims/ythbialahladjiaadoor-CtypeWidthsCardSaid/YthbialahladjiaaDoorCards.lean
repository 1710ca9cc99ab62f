/-
  DERIVED. GIVEN WITH THE SEED: THE CARDS: each row of YthbialahladjiaaDoorRows.lean that lists a variable, with what it lists TIED to the program's text (the seventh form; the later family's looks); each row that meets fmt, with fmt's text TOLD by the authors' own Lean function (tested against real Go, not proved from fmt's source: count such statements apart). THE CARD IS WHAT COUNTS. Prove the row's statement (the work); the ties are given (YthbialahladjiaaDoorTie.lean); close each card by the builder's one call (the guide's Derived/Test/ToyasCard.lean, 'card_holds'). Laid BY PROGRAM, IN A SANDBOX (cutbox-door.mjs). By AI agents, Wed Nov 11 2026. No macro, syntax, notation, axiom, sorry.
-/
import Derived.Test.YthbialahladjiaaDoorRows
import GoSem.ClaimSeven
namespace Go.Proofs.YthbialahladjiaaDoor
namespace Rows

/-- THE TIED CARD OF 'crosstreelaw04.CtypeMays'. -/
def ctypeMaysCard : Claim7 := { stood := { row := ctypeMaysRow, standIns := [], harness := (true, "23b6b60d8ea2924fc5d5d0207558daeada08bf6b564d01f902116d2bf02f857a"), looks := false }, kinds := [], alts := [], laidByText := true, laidKinds := [.data], laidTests := true, laidLooks := .later }
def CtypeMaysCardSaid : Prop := Claim7.holds Tryd.pinned (.plain (OpenSpec.ofChange ctypeMaysSpec)) ctypeMaysCard

/-- THE TIED CARD OF 'crosstreelaw04.CtypeFits'. -/
def ctypeFitsCard : Claim7 := { stood := { row := ctypeFitsRow, standIns := [], harness := (true, "23b6b60d8ea2924fc5d5d0207558daeada08bf6b564d01f902116d2bf02f857a"), looks := false }, kinds := [], alts := [], laidByText := true, laidKinds := [.data], laidTests := true, laidLooks := .later }
def CtypeFitsCardSaid : Prop := Claim7.holds Tryd.pinned (.plain (OpenSpec.ofChange ctypeFitsSpec)) ctypeFitsCard

/-- THE TIED CARD OF 'crosstreelaw04.CtypeSame'. -/
def ctypeSameCard : Claim7 := { stood := { row := ctypeSameRow, standIns := [], harness := (true, "23b6b60d8ea2924fc5d5d0207558daeada08bf6b564d01f902116d2bf02f857a"), looks := false }, kinds := [], alts := [], laidByText := true, laidKinds := [.data], laidTests := true, laidLooks := .later }
def CtypeSameCardSaid : Prop := Claim7.holds Tryd.pinned (.plain (OpenSpec.ofChange ctypeSameSpec)) ctypeSameCard

/-- THE TIED CARD OF 'crosstreelaw04.CtypeDecays'. -/
def ctypeDecaysCard : Claim7 := { stood := { row := ctypeDecaysRow, standIns := [], harness := (true, "23b6b60d8ea2924fc5d5d0207558daeada08bf6b564d01f902116d2bf02f857a"), looks := false }, kinds := [], alts := [], laidByText := true, laidKinds := [.data], laidTests := true, laidLooks := .later }
def CtypeDecaysCardSaid : Prop := Claim7.holds Tryd.pinned (.plain (OpenSpec.ofChange ctypeDecaysSpec)) ctypeDecaysCard

/-- THE TIED CARD OF 'crosstreelaw04.CtypeWidths'. -/
def ctypeWidthsCard : Claim7 := { stood := { row := ctypeWidthsRow, standIns := [], harness := (true, "23b6b60d8ea2924fc5d5d0207558daeada08bf6b564d01f902116d2bf02f857a"), looks := false }, kinds := [], alts := [], laidByText := true, laidKinds := [.data], laidTests := true, laidLooks := .later }
def CtypeWidthsCardSaid : Prop := Claim7.holds Tryd.pinned (.plain (OpenSpec.ofChange ctypeWidthsSpec)) ctypeWidthsCard

/-- THE TIED CARD OF 'crosstreelaw04.CtypeVoids'. -/
def ctypeVoidsCard : Claim7 := { stood := { row := ctypeVoidsRow, standIns := [], harness := (true, "23b6b60d8ea2924fc5d5d0207558daeada08bf6b564d01f902116d2bf02f857a"), looks := false }, kinds := [], alts := [], laidByText := true, laidKinds := [.data], laidTests := true, laidLooks := .later }
def CtypeVoidsCardSaid : Prop := Claim7.holds Tryd.pinned (.plain (OpenSpec.ofChange ctypeVoidsSpec)) ctypeVoidsCard

/-- THE TIED CARD OF 'crosstreelaw04.CtypeParts'. -/
def ctypePartsCard : Claim7 := { stood := { row := ctypePartsRow, standIns := [], harness := (true, "23b6b60d8ea2924fc5d5d0207558daeada08bf6b564d01f902116d2bf02f857a"), looks := false }, kinds := [], alts := [], laidByText := true, laidKinds := [.data], laidTests := true, laidLooks := .later }
def CtypePartsCardSaid : Prop := Claim7.holds Tryd.pinned (.plain (OpenSpec.ofChange ctypePartsSpec)) ctypePartsCard

/-- THE SECOND FORM's CARD OF 'crosstreelaw04.CtypeMays'. -/
def ctypeMaysUptoCard : Claim7 := { stood := { row := ctypeMaysUptoRow, standIns := [], harness := (true, "23b6b60d8ea2924fc5d5d0207558daeada08bf6b564d01f902116d2bf02f857a"), looks := false }, kinds := [], alts := [], laidByText := true, laidKinds := [.data], laidTests := true, laidLooks := .later }
def CtypeMaysUptoCardSaid : Prop := Claim7.holds Tryd.pinned (.plain (OpenSpec.upto ctypeMaysSpec)) ctypeMaysUptoCard

/-- THE SECOND FORM's CARD OF 'crosstreelaw04.CtypeFits'. -/
def ctypeFitsUptoCard : Claim7 := { stood := { row := ctypeFitsUptoRow, standIns := [], harness := (true, "23b6b60d8ea2924fc5d5d0207558daeada08bf6b564d01f902116d2bf02f857a"), looks := false }, kinds := [], alts := [], laidByText := true, laidKinds := [.data], laidTests := true, laidLooks := .later }
def CtypeFitsUptoCardSaid : Prop := Claim7.holds Tryd.pinned (.plain (OpenSpec.upto ctypeFitsSpec)) ctypeFitsUptoCard

/-- THE SECOND FORM's CARD OF 'crosstreelaw04.CtypeSame'. -/
def ctypeSameUptoCard : Claim7 := { stood := { row := ctypeSameUptoRow, standIns := [], harness := (true, "23b6b60d8ea2924fc5d5d0207558daeada08bf6b564d01f902116d2bf02f857a"), looks := false }, kinds := [], alts := [], laidByText := true, laidKinds := [.data], laidTests := true, laidLooks := .later }
def CtypeSameUptoCardSaid : Prop := Claim7.holds Tryd.pinned (.plain (OpenSpec.upto ctypeSameSpec)) ctypeSameUptoCard

/-- THE SECOND FORM's CARD OF 'crosstreelaw04.CtypeDecays'. -/
def ctypeDecaysUptoCard : Claim7 := { stood := { row := ctypeDecaysUptoRow, standIns := [], harness := (true, "23b6b60d8ea2924fc5d5d0207558daeada08bf6b564d01f902116d2bf02f857a"), looks := false }, kinds := [], alts := [], laidByText := true, laidKinds := [.data], laidTests := true, laidLooks := .later }
def CtypeDecaysUptoCardSaid : Prop := Claim7.holds Tryd.pinned (.plain (OpenSpec.upto ctypeDecaysSpec)) ctypeDecaysUptoCard

/-- THE SECOND FORM's CARD OF 'crosstreelaw04.CtypeWidths'. -/
def ctypeWidthsUptoCard : Claim7 := { stood := { row := ctypeWidthsUptoRow, standIns := [], harness := (true, "23b6b60d8ea2924fc5d5d0207558daeada08bf6b564d01f902116d2bf02f857a"), looks := false }, kinds := [], alts := [], laidByText := true, laidKinds := [.data], laidTests := true, laidLooks := .later }
def CtypeWidthsUptoCardSaid : Prop := Claim7.holds Tryd.pinned (.plain (OpenSpec.upto ctypeWidthsSpec)) ctypeWidthsUptoCard

/-- THE SECOND FORM's CARD OF 'crosstreelaw04.CtypeVoids'. -/
def ctypeVoidsUptoCard : Claim7 := { stood := { row := ctypeVoidsUptoRow, standIns := [], harness := (true, "23b6b60d8ea2924fc5d5d0207558daeada08bf6b564d01f902116d2bf02f857a"), looks := false }, kinds := [], alts := [], laidByText := true, laidKinds := [.data], laidTests := true, laidLooks := .later }
def CtypeVoidsUptoCardSaid : Prop := Claim7.holds Tryd.pinned (.plain (OpenSpec.upto ctypeVoidsSpec)) ctypeVoidsUptoCard

/-- THE SECOND FORM's CARD OF 'crosstreelaw04.CtypeParts'. -/
def ctypePartsUptoCard : Claim7 := { stood := { row := ctypePartsUptoRow, standIns := [], harness := (true, "23b6b60d8ea2924fc5d5d0207558daeada08bf6b564d01f902116d2bf02f857a"), looks := false }, kinds := [], alts := [], laidByText := true, laidKinds := [.data], laidTests := true, laidLooks := .later }
def CtypePartsUptoCardSaid : Prop := Claim7.holds Tryd.pinned (.plain (OpenSpec.upto ctypePartsSpec)) ctypePartsUptoCard
end Rows
end Go.Proofs.YthbialahladjiaaDoor
