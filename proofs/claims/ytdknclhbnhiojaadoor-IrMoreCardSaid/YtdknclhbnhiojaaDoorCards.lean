/-
  DERIVED. GIVEN WITH THE SEED: THE CARDS: each row of YtdknclhbnhiojaaDoorRows.lean that lists a variable, with what it lists TIED to the program's text (the seventh form; the later family's looks); each row that meets fmt, with fmt's text TOLD by the authors' own Lean function (tested against real Go, not proved from fmt's source: count such statements apart). THE CARD IS WHAT COUNTS. Prove the row's statement (the work); the ties are given (YtdknclhbnhiojaaDoorTie.lean); close each card by the builder's one call (the guide's Derived/Test/ToyasCard.lean, 'card_holds'). Laid BY PROGRAM, IN A SANDBOX (cutbox-door.mjs). By AI agents, Wed Nov 11 2026. No macro, syntax, notation, axiom, sorry.
-/
import Derived.Test.YtdknclhbnhiojaaDoorRows
import GoSem.ClaimSeven
namespace Go.Proofs.YtdknclhbnhiojaaDoor
namespace Rows

/-- THE TIED CARD OF 'crosstreelaw08.IrReads'. -/
def irReadsCard : Claim7 := { stood := { row := irReadsRow, standIns := [], harness := (true, "859a44c672eee963a9ef4f5cb86865c3ef152d287b020be3bf3d9245b43b4693"), looks := false }, kinds := [], alts := [], laidByText := true, laidKinds := [.data], laidTests := true, laidLooks := .later }
def IrReadsCardSaid : Prop := Claim7.holds Tryd.pinned (.plain (OpenSpec.ofChange irReadsSpec)) irReadsCard

/-- THE TIED CARD OF 'crosstreelaw08.IrChecks'. -/
def irChecksCard : Claim7 := { stood := { row := irChecksRow, standIns := [], harness := (true, "859a44c672eee963a9ef4f5cb86865c3ef152d287b020be3bf3d9245b43b4693"), looks := false }, kinds := [], alts := [], laidByText := true, laidKinds := [.data], laidTests := true, laidLooks := .later }
def IrChecksCardSaid : Prop := Claim7.holds Tryd.pinned (.plain (OpenSpec.ofChange irChecksSpec)) irChecksCard

/-- THE TIED CARD OF 'crosstreelaw08.IrWithin'. -/
def irWithinCard : Claim7 := { stood := { row := irWithinRow, standIns := [], harness := (true, "859a44c672eee963a9ef4f5cb86865c3ef152d287b020be3bf3d9245b43b4693"), looks := false }, kinds := [], alts := [], laidByText := true, laidKinds := [.data], laidTests := true, laidLooks := .later }
def IrWithinCardSaid : Prop := Claim7.holds Tryd.pinned (.plain (OpenSpec.ofChange irWithinSpec)) irWithinCard

/-- THE TIED CARD OF 'crosstreelaw08.IrMore'. -/
def irMoreCard : Claim7 := { stood := { row := irMoreRow, standIns := [], harness := (true, "859a44c672eee963a9ef4f5cb86865c3ef152d287b020be3bf3d9245b43b4693"), looks := false }, kinds := [], alts := [], laidByText := true, laidKinds := [.data], laidTests := true, laidLooks := .later }
def IrMoreCardSaid : Prop := Claim7.holds Tryd.pinned (.plain (OpenSpec.ofChange irMoreSpec)) irMoreCard

/-- THE TIED CARD OF 'crosstreelaw08.IrPlain'. -/
def irPlainCard : Claim7 := { stood := { row := irPlainRow, standIns := [], harness := (true, "859a44c672eee963a9ef4f5cb86865c3ef152d287b020be3bf3d9245b43b4693"), looks := false }, kinds := [], alts := [], laidByText := true, laidKinds := [.data], laidTests := true, laidLooks := .later }
def IrPlainCardSaid : Prop := Claim7.holds Tryd.pinned (.plain (OpenSpec.ofChange irPlainSpec)) irPlainCard

/-- THE SECOND FORM's CARD OF 'crosstreelaw08.IrReads'. -/
def irReadsUptoCard : Claim7 := { stood := { row := irReadsUptoRow, standIns := [], harness := (true, "859a44c672eee963a9ef4f5cb86865c3ef152d287b020be3bf3d9245b43b4693"), looks := false }, kinds := [], alts := [], laidByText := true, laidKinds := [.data], laidTests := true, laidLooks := .later }
def IrReadsUptoCardSaid : Prop := Claim7.holds Tryd.pinned (.plain (OpenSpec.upto irReadsSpec)) irReadsUptoCard

/-- THE SECOND FORM's CARD OF 'crosstreelaw08.IrChecks'. -/
def irChecksUptoCard : Claim7 := { stood := { row := irChecksUptoRow, standIns := [], harness := (true, "859a44c672eee963a9ef4f5cb86865c3ef152d287b020be3bf3d9245b43b4693"), looks := false }, kinds := [], alts := [], laidByText := true, laidKinds := [.data], laidTests := true, laidLooks := .later }
def IrChecksUptoCardSaid : Prop := Claim7.holds Tryd.pinned (.plain (OpenSpec.upto irChecksSpec)) irChecksUptoCard

/-- THE SECOND FORM's CARD OF 'crosstreelaw08.IrWithin'. -/
def irWithinUptoCard : Claim7 := { stood := { row := irWithinUptoRow, standIns := [], harness := (true, "859a44c672eee963a9ef4f5cb86865c3ef152d287b020be3bf3d9245b43b4693"), looks := false }, kinds := [], alts := [], laidByText := true, laidKinds := [.data], laidTests := true, laidLooks := .later }
def IrWithinUptoCardSaid : Prop := Claim7.holds Tryd.pinned (.plain (OpenSpec.upto irWithinSpec)) irWithinUptoCard

/-- THE SECOND FORM's CARD OF 'crosstreelaw08.IrMore'. -/
def irMoreUptoCard : Claim7 := { stood := { row := irMoreUptoRow, standIns := [], harness := (true, "859a44c672eee963a9ef4f5cb86865c3ef152d287b020be3bf3d9245b43b4693"), looks := false }, kinds := [], alts := [], laidByText := true, laidKinds := [.data], laidTests := true, laidLooks := .later }
def IrMoreUptoCardSaid : Prop := Claim7.holds Tryd.pinned (.plain (OpenSpec.upto irMoreSpec)) irMoreUptoCard

/-- THE SECOND FORM's CARD OF 'crosstreelaw08.IrPlain'. -/
def irPlainUptoCard : Claim7 := { stood := { row := irPlainUptoRow, standIns := [], harness := (true, "859a44c672eee963a9ef4f5cb86865c3ef152d287b020be3bf3d9245b43b4693"), looks := false }, kinds := [], alts := [], laidByText := true, laidKinds := [.data], laidTests := true, laidLooks := .later }
def IrPlainUptoCardSaid : Prop := Claim7.holds Tryd.pinned (.plain (OpenSpec.upto irPlainSpec)) irPlainUptoCard
end Rows
end Go.Proofs.YtdknclhbnhiojaaDoor
