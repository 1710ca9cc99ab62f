/-
  NARROWER THAN 'FOR EVERY INPUT', by the rows' own cells (each row's printed sentence says how): IrReads: laid · IrChecks: loops, laid · IrWithin: loops, laid · IrMore: loops, laid · IrPlain: laid.
  DERIVED. THE GIVEN ROWS OF THIS SEAT. 5 by the template 'for every input the law returns true; each argument reads behind the call as it read before'; 0 by the template 'total and deterministic' (their statements: YtdknclhbnhiojaaDoorTotals.lean).
  GIVEN WITH THE SEED: the statements are not yours to turn. If you find one false, say at which input.
  Laid BY PROGRAM, IN A SANDBOX (cutbox-rows.mjs): the forced cells as the released guide's own fill.sh prints them over the translation 0d6324e684347292… (all of the seat's roots in one cut). By AI agents, Wed Nov 11 2026. No macro, syntax, notation, axiom, sorry.
-/
import Derived.Test.YtdknclhbnhiojaaDoorChecked
import GoSem.Claim
import GoSem.ClaimJoined
import GoSem.ClaimMapViews
import Derived.JoinedTies
import Derived.KernelRfl
namespace Go.Proofs.YtdknclhbnhiojaaDoor
/- THE CELL 'sum', in the pinned program and in every row, IS THE sha256 OF THE DUMP (.gsa) THAT YtdknclhbnhiojaaDoorProg.lean LOADS. Nothing in Lean hashes anything: it is a label: what it is worth is what the hold of that sum in a sandbox is worth. -/
noncomputable def Tryd.pinned : Pinned := { name := "ytdknclhbnhiojaadoor", sum := "0d6324e6843472923c58bb0672bd1ac7e652a293bea3c3b6e072286a598fd3fb", checked := Tryd.checked }
namespace Rows
def none {H : Type} : Left H := { results := [], args := [] }

/- WHAT THE LISTED PACKAGE-LEVEL VARIABLES READ AS WHEN THE CALL BEGINS. Each datum BY PROGRAM (the guide's laid-datum.mjs) off the statement by which the dump's own 'gosem.cut.vars' lays the variable. In a bare row this is a premise. The card (YtdknclhbnhiojaaDoorCards.lean) ties it to the program's text. -/
def laid_crosstree_ir_rows {H : Type} : DataW H := .agg [.lit (.string []), .lit (.string [61]), .lit (.string [61, 115]), .lit (.string [98, 61]), .lit (.string [98, 99, 61]), .lit (.string [98, 99, 61, 50]), .lit (.string [98, 61, 49]), .lit (.string [98, 61, 119]), .lit (.string [98, 61, 119]), .lit (.string [97, 98, 119]), .lit (.string [97, 98, 110]), .lit (.string [97, 98, 99]), .lit (.string [97, 98, 99]), .lit (.string [98, 61, 104]), .lit (.string [97]), .lit (.string [108, 61, 102]), .lit (.string [98, 108, 61, 54]), .lit (.string [106]), .lit (.string [97, 106]), .lit (.string [114]), .lit (.string [61])]

/-- 'crosstreelaw08.IrReads': WHATEVER THE INPUT: true; the input reads as it did. -/
def irReadsSpec : ChangeSpec := { name := "irReads", fn := fun _ => fun
  | [d1, d2] => { results := [.lit (.bool true)], args := [d1, d2] }
  | _ => none }
def irReadsRow : OpenClaim := { program := "ytdknclhbnhiojaadoor", sum := "0d6324e6843472923c58bb0672bd1ac7e652a293bea3c3b6e072286a598fd3fb", func := "crosstree/crosstreelaw08.IrReads", spec := "irReads", inPlace := ["internal/bytealg.IndexByteString", "internal/bytealg.IndexString"], named := ["crosstree/ir.rows", "internal/bytealg.MaxLen"], apart := false, laid := [("crosstree/ir.rows", laid_crosstree_ir_rows)] }
def IrReadsSaid : Prop := irReadsRow.holds Tryd.pinned (OpenSpec.ofChange irReadsSpec)

/-- ITS FALSE NEIGHBOUR: 'it returns false'. Refute it at one input. -/
def irReadsWrong : ChangeSpec := { name := "irReads", fn := fun _ => fun
  | [d1, d2] => { results := [.lit (.bool false)], args := [d1, d2] }
  | _ => none }
def IrReadsWrongFalsely : Prop := irReadsRow.holds Tryd.pinned (OpenSpec.ofChange irReadsWrong)

/-- 'crosstreelaw08.IrChecks': WHATEVER THE INPUT: true; the input reads as it did. -/
def irChecksSpec : ChangeSpec := { name := "irChecks", fn := fun _ => fun
  | [d] => { results := [.lit (.bool true)], args := [d] }
  | _ => none }
def irChecksRow : OpenClaim := { program := "ytdknclhbnhiojaadoor", sum := "0d6324e6843472923c58bb0672bd1ac7e652a293bea3c3b6e072286a598fd3fb", func := "crosstree/crosstreelaw08.IrChecks", spec := "irChecks", inPlace := ["internal/bytealg.IndexByteString", "internal/bytealg.IndexString"], unfollowed := true, recurses := true, named := ["crosstree/ir.rows", "internal/bytealg.MaxLen"], loops := true, apart := false, laid := [("crosstree/ir.rows", laid_crosstree_ir_rows)] }
def IrChecksSaid : Prop := irChecksRow.holds Tryd.pinned (OpenSpec.ofChange irChecksSpec)

/-- ITS FALSE NEIGHBOUR: 'it returns false'. Refute it at one input. -/
def irChecksWrong : ChangeSpec := { name := "irChecks", fn := fun _ => fun
  | [d] => { results := [.lit (.bool false)], args := [d] }
  | _ => none }
def IrChecksWrongFalsely : Prop := irChecksRow.holds Tryd.pinned (OpenSpec.ofChange irChecksWrong)

/-- 'crosstreelaw08.IrWithin': WHATEVER THE INPUT: true; the input reads as it did. -/
def irWithinSpec : ChangeSpec := { name := "irWithin", fn := fun _ => fun
  | [d] => { results := [.lit (.bool true)], args := [d] }
  | _ => none }
def irWithinRow : OpenClaim := { program := "ytdknclhbnhiojaadoor", sum := "0d6324e6843472923c58bb0672bd1ac7e652a293bea3c3b6e072286a598fd3fb", func := "crosstree/crosstreelaw08.IrWithin", spec := "irWithin", inPlace := ["internal/bytealg.IndexByteString", "internal/bytealg.IndexString"], unfollowed := true, recurses := true, named := ["crosstree/ir.rows", "internal/bytealg.MaxLen"], loops := true, apart := false, laid := [("crosstree/ir.rows", laid_crosstree_ir_rows)] }
def IrWithinSaid : Prop := irWithinRow.holds Tryd.pinned (OpenSpec.ofChange irWithinSpec)

/-- ITS FALSE NEIGHBOUR: 'it returns false'. Refute it at one input. -/
def irWithinWrong : ChangeSpec := { name := "irWithin", fn := fun _ => fun
  | [d] => { results := [.lit (.bool false)], args := [d] }
  | _ => none }
def IrWithinWrongFalsely : Prop := irWithinRow.holds Tryd.pinned (OpenSpec.ofChange irWithinWrong)

/-- 'crosstreelaw08.IrMore': WHATEVER THE INPUT: true; the input reads as it did. -/
def irMoreSpec : ChangeSpec := { name := "irMore", fn := fun _ => fun
  | [d1, d2] => { results := [.lit (.bool true)], args := [d1, d2] }
  | _ => none }
def irMoreRow : OpenClaim := { program := "ytdknclhbnhiojaadoor", sum := "0d6324e6843472923c58bb0672bd1ac7e652a293bea3c3b6e072286a598fd3fb", func := "crosstree/crosstreelaw08.IrMore", spec := "irMore", inPlace := ["internal/bytealg.IndexByteString", "internal/bytealg.IndexString"], unfollowed := true, recurses := true, named := ["crosstree/ir.rows", "internal/bytealg.MaxLen"], loops := true, apart := false, laid := [("crosstree/ir.rows", laid_crosstree_ir_rows)] }
def IrMoreSaid : Prop := irMoreRow.holds Tryd.pinned (OpenSpec.ofChange irMoreSpec)

/-- ITS FALSE NEIGHBOUR: 'it returns false'. Refute it at one input. -/
def irMoreWrong : ChangeSpec := { name := "irMore", fn := fun _ => fun
  | [d1, d2] => { results := [.lit (.bool false)], args := [d1, d2] }
  | _ => none }
def IrMoreWrongFalsely : Prop := irMoreRow.holds Tryd.pinned (OpenSpec.ofChange irMoreWrong)

/-- 'crosstreelaw08.IrPlain': WHATEVER THE INPUT: true; the input reads as it did. -/
def irPlainSpec : ChangeSpec := { name := "irPlain", fn := fun _ => fun
  | [d1, d2] => { results := [.lit (.bool true)], args := [d1, d2] }
  | _ => none }
def irPlainRow : OpenClaim := { program := "ytdknclhbnhiojaadoor", sum := "0d6324e6843472923c58bb0672bd1ac7e652a293bea3c3b6e072286a598fd3fb", func := "crosstree/crosstreelaw08.IrPlain", spec := "irPlain", inPlace := ["internal/bytealg.IndexByteString", "internal/bytealg.IndexString"], named := ["crosstree/ir.rows", "internal/bytealg.MaxLen"], apart := false, laid := [("crosstree/ir.rows", laid_crosstree_ir_rows)] }
def IrPlainSaid : Prop := irPlainRow.holds Tryd.pinned (OpenSpec.ofChange irPlainSpec)

/-- ITS FALSE NEIGHBOUR: 'it returns false'. Refute it at one input. -/
def irPlainWrong : ChangeSpec := { name := "irPlain", fn := fun _ => fun
  | [d1, d2] => { results := [.lit (.bool false)], args := [d1, d2] }
  | _ => none }
def IrPlainWrongFalsely : Prop := irPlainRow.holds Tryd.pinned (OpenSpec.ofChange irPlainWrong)

/- THE SECOND FORM. 'bulk': how many values and letters a reading holds, each counted each time it is reached (what is shared counts as often as it is met; a slice's spare places count too). A statement '..UptoSaid' is the law's where the arguments, and the package variables that the reading takes, are together of bulk at most 1048576: NARROWER than '..Said'. Prove '..Said' where nothing that the law and all that it calls make is longer than what came in: it says more and counts as full. Else prove '..UptoSaid'. A law counts once. -/
mutual
def uptoBulk {H : Type} : DataW H → Nat
  | .lit (.string bytes) => bytes.length + 1
  | .lit _ => 1
  | .nil => 1
  | .ptr d => uptoBulk d + 1
  | .slice elems spare => uptoBulkAll elems + uptoBulkAll spare + 1
  | .agg parts => uptoBulkAll parts + 1
  | .iface _ d => uptoBulk d + 1
  | .map entries => uptoBulkEntries entries + 1
  | .held _ => 1
def uptoBulkAll {H : Type} : List (DataW H) → Nat
  | [] => 0
  | d :: r => uptoBulk d + uptoBulkAll r
def uptoBulkEntries {H : Type} : List (Lit × DataW H) → Nat
  | [] => 0
  | x :: r => uptoBulkEntry x + uptoBulkEntries r
def uptoBulkEntry {H : Type} : Lit × DataW H → Nat
  | (.string bytes, d) => bytes.length + uptoBulk d + 1
  | (_, d) => uptoBulk d + 1
 end
def uptoSmall : (H : Type) → List (DataW H) → Bool := fun _ ds => decide (uptoBulkAll ds ≤ 1048576)
def OpenSpec.upto (s : _root_.Go.ChangeSpec) : _root_.Go.OpenSpec := { _root_.Go.OpenSpec.ofChange s with cond := some uptoSmall }

/-- 'crosstreelaw08.IrReads', WHERE WHAT IT READS IS OF BULK AT MOST 1048576: true; the input reads as it did. -/
def irReadsUptoRow : OpenClaim := { program := "ytdknclhbnhiojaadoor", sum := "0d6324e6843472923c58bb0672bd1ac7e652a293bea3c3b6e072286a598fd3fb", func := "crosstree/crosstreelaw08.IrReads", spec := "irReads", inPlace := ["internal/bytealg.IndexByteString", "internal/bytealg.IndexString"], named := ["crosstree/ir.rows", "internal/bytealg.MaxLen"], apart := false, laid := [("crosstree/ir.rows", laid_crosstree_ir_rows)], narrowed := true }
def IrReadsUptoSaid : Prop := irReadsUptoRow.holds Tryd.pinned (OpenSpec.upto irReadsSpec)

/-- 'crosstreelaw08.IrChecks', WHERE WHAT IT READS IS OF BULK AT MOST 1048576: true; the input reads as it did. -/
def irChecksUptoRow : OpenClaim := { program := "ytdknclhbnhiojaadoor", sum := "0d6324e6843472923c58bb0672bd1ac7e652a293bea3c3b6e072286a598fd3fb", func := "crosstree/crosstreelaw08.IrChecks", spec := "irChecks", inPlace := ["internal/bytealg.IndexByteString", "internal/bytealg.IndexString"], unfollowed := true, recurses := true, named := ["crosstree/ir.rows", "internal/bytealg.MaxLen"], loops := true, apart := false, laid := [("crosstree/ir.rows", laid_crosstree_ir_rows)], narrowed := true }
def IrChecksUptoSaid : Prop := irChecksUptoRow.holds Tryd.pinned (OpenSpec.upto irChecksSpec)

/-- 'crosstreelaw08.IrWithin', WHERE WHAT IT READS IS OF BULK AT MOST 1048576: true; the input reads as it did. -/
def irWithinUptoRow : OpenClaim := { program := "ytdknclhbnhiojaadoor", sum := "0d6324e6843472923c58bb0672bd1ac7e652a293bea3c3b6e072286a598fd3fb", func := "crosstree/crosstreelaw08.IrWithin", spec := "irWithin", inPlace := ["internal/bytealg.IndexByteString", "internal/bytealg.IndexString"], unfollowed := true, recurses := true, named := ["crosstree/ir.rows", "internal/bytealg.MaxLen"], loops := true, apart := false, laid := [("crosstree/ir.rows", laid_crosstree_ir_rows)], narrowed := true }
def IrWithinUptoSaid : Prop := irWithinUptoRow.holds Tryd.pinned (OpenSpec.upto irWithinSpec)

/-- 'crosstreelaw08.IrMore', WHERE WHAT IT READS IS OF BULK AT MOST 1048576: true; the input reads as it did. -/
def irMoreUptoRow : OpenClaim := { program := "ytdknclhbnhiojaadoor", sum := "0d6324e6843472923c58bb0672bd1ac7e652a293bea3c3b6e072286a598fd3fb", func := "crosstree/crosstreelaw08.IrMore", spec := "irMore", inPlace := ["internal/bytealg.IndexByteString", "internal/bytealg.IndexString"], unfollowed := true, recurses := true, named := ["crosstree/ir.rows", "internal/bytealg.MaxLen"], loops := true, apart := false, laid := [("crosstree/ir.rows", laid_crosstree_ir_rows)], narrowed := true }
def IrMoreUptoSaid : Prop := irMoreUptoRow.holds Tryd.pinned (OpenSpec.upto irMoreSpec)

/-- 'crosstreelaw08.IrPlain', WHERE WHAT IT READS IS OF BULK AT MOST 1048576: true; the input reads as it did. -/
def irPlainUptoRow : OpenClaim := { program := "ytdknclhbnhiojaadoor", sum := "0d6324e6843472923c58bb0672bd1ac7e652a293bea3c3b6e072286a598fd3fb", func := "crosstree/crosstreelaw08.IrPlain", spec := "irPlain", inPlace := ["internal/bytealg.IndexByteString", "internal/bytealg.IndexString"], named := ["crosstree/ir.rows", "internal/bytealg.MaxLen"], apart := false, laid := [("crosstree/ir.rows", laid_crosstree_ir_rows)], narrowed := true }
def IrPlainUptoSaid : Prop := irPlainUptoRow.holds Tryd.pinned (OpenSpec.upto irPlainSpec)

end Rows
end Go.Proofs.YtdknclhbnhiojaaDoor
