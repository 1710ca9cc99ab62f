/-
  NARROWER THAN 'FOR EVERY INPUT', by the rows' own cells (each row's printed sentence says how): CtypeMays: loops, laid · CtypeFits: loops, laid · CtypeSame: loops, laid · CtypeDecays: loops, laid · CtypeWidths: loops, laid · CtypeVoids: loops, laid · CtypeParts: loops, laid.
  DERIVED. THE GIVEN ROWS OF THIS SEAT. 7 by the template 'for every input the law returns true; each argument reads behind the call as it read before'; 0 by the template 'total and deterministic' (their statements: YthbialahladjiaaDoorTotals.lean).
  GIVEN WITH THE SEED: the statements are not yours to turn. If you find one false, say at which input.
  Laid BY PROGRAM, IN A SANDBOX (cutbox-rows.mjs): the forced cells as the released guide's own fill.sh prints them over the translation f5fd98e3de2f03ab… (all of the seat's roots in one cut). By AI agents, Wed Nov 11 2026. No macro, syntax, notation, axiom, sorry.
-/
import Derived.Test.YthbialahladjiaaDoorChecked
import GoSem.Claim
import GoSem.ClaimJoined
import GoSem.ClaimMapViews
import Derived.JoinedTies
import Derived.KernelRfl
namespace Go.Proofs.YthbialahladjiaaDoor
/- THE CELL 'sum', in the pinned program and in every row, IS THE sha256 OF THE DUMP (.gsa) THAT YthbialahladjiaaDoorProg.lean LOADS. Nothing in Lean hashes anything: it is a label: what it is worth is what the hold of that sum in a sandbox is worth. -/
noncomputable def Tryd.pinned : Pinned := { name := "ythbialahladjiaadoor", sum := "f5fd98e3de2f03ab762680b60cd36998b56018afe0b700c5ce7068f5c736ccf1", checked := Tryd.checked }
namespace Rows
def none {H : Type} : Left H := { results := [], args := [] }

/- WHAT THE LISTED PACKAGE-LEVEL VARIABLES READ AS WHEN THE CALL BEGINS. Each datum BY PROGRAM (the guide's laid-datum.mjs) off the statement by which the dump's own 'gosem.cut.vars' lays the variable. In a bare row this is a premise. The card (YthbialahladjiaaDoorCards.lean) ties it to the program's text. -/
def laid_crosstree_ctype_kinds {H : Type} : DataW H := .agg [.agg [.lit (.int .i64 0), .lit (.bool false), .lit (.int .i64 0), .lit (.int .i64 0), .lit (.int .i64 0)], .agg [.lit (.int .i64 0), .lit (.bool false), .lit (.int .i64 0), .lit (.int .i64 0), .lit (.int .i64 0)], .agg [.lit (.int .i64 1), .lit (.bool true), .lit (.int .i64 0), .lit (.int .i64 0), .lit (.int .i64 0)], .agg [.lit (.int .i64 4), .lit (.bool true), .lit (.int .i64 0), .lit (.int .i64 0), .lit (.int .i64 0)], .agg [.lit (.int .i64 8), .lit (.bool true), .lit (.int .i64 0), .lit (.int .i64 0), .lit (.int .i64 0)], .agg [.lit (.int .i64 8), .lit (.bool false), .lit (.int .i64 0), .lit (.int .i64 0), .lit (.int .i64 1)], .agg [.lit (.int .i64 0), .lit (.bool false), .lit (.int .i64 0), .lit (.int .i64 4096), .lit (.int .i64 1)], .agg [.lit (.int .i64 0), .lit (.bool false), .lit (.int .i64 24), .lit (.int .i64 0), .lit (.int .i64 0)], .agg [.lit (.int .i64 0), .lit (.bool false), .lit (.int .i64 24), .lit (.int .i64 0), .lit (.int .i64 0)], .agg [.lit (.int .i64 0), .lit (.bool false), .lit (.int .i64 0), .lit (.int .i64 0), .lit (.int .i64 7)]]

/-- 'crosstreelaw04.CtypeMays': WHATEVER THE INPUT: true; the input reads as it did. -/
def ctypeMaysSpec : ChangeSpec := { name := "ctypeMays", fn := fun _ => fun
  | [d] => { results := [.lit (.bool true)], args := [d] }
  | _ => none }
def ctypeMaysRow : OpenClaim := { program := "ythbialahladjiaadoor", sum := "f5fd98e3de2f03ab762680b60cd36998b56018afe0b700c5ce7068f5c736ccf1", func := "crosstree/crosstreelaw04.CtypeMays", spec := "ctypeMays", unfollowed := true, recurses := true, named := ["crosstree/ctype.kinds"], loops := true, plainKeys := false, apart := false, laid := [("crosstree/ctype.kinds", laid_crosstree_ctype_kinds)] }
def CtypeMaysSaid : Prop := ctypeMaysRow.holds Tryd.pinned (OpenSpec.ofChange ctypeMaysSpec)

/-- ITS FALSE NEIGHBOUR: 'it returns false'. Refute it at one input. -/
def ctypeMaysWrong : ChangeSpec := { name := "ctypeMays", fn := fun _ => fun
  | [d] => { results := [.lit (.bool false)], args := [d] }
  | _ => none }
def CtypeMaysWrongFalsely : Prop := ctypeMaysRow.holds Tryd.pinned (OpenSpec.ofChange ctypeMaysWrong)

/-- 'crosstreelaw04.CtypeFits': WHATEVER THE INPUT: true; the input reads as it did. -/
def ctypeFitsSpec : ChangeSpec := { name := "ctypeFits", fn := fun _ => fun
  | [d1, d2, d3] => { results := [.lit (.bool true)], args := [d1, d2, d3] }
  | _ => none }
def ctypeFitsRow : OpenClaim := { program := "ythbialahladjiaadoor", sum := "f5fd98e3de2f03ab762680b60cd36998b56018afe0b700c5ce7068f5c736ccf1", func := "crosstree/crosstreelaw04.CtypeFits", spec := "ctypeFits", unfollowed := true, recurses := true, named := ["crosstree/ctype.kinds"], loops := true, plainKeys := false, apart := false, laid := [("crosstree/ctype.kinds", laid_crosstree_ctype_kinds)] }
def CtypeFitsSaid : Prop := ctypeFitsRow.holds Tryd.pinned (OpenSpec.ofChange ctypeFitsSpec)

/-- ITS FALSE NEIGHBOUR: 'it returns false'. Refute it at one input. -/
def ctypeFitsWrong : ChangeSpec := { name := "ctypeFits", fn := fun _ => fun
  | [d1, d2, d3] => { results := [.lit (.bool false)], args := [d1, d2, d3] }
  | _ => none }
def CtypeFitsWrongFalsely : Prop := ctypeFitsRow.holds Tryd.pinned (OpenSpec.ofChange ctypeFitsWrong)

/-- 'crosstreelaw04.CtypeSame': WHATEVER THE INPUT: true; the input reads as it did. -/
def ctypeSameSpec : ChangeSpec := { name := "ctypeSame", fn := fun _ => fun
  | [d1, d2, d3] => { results := [.lit (.bool true)], args := [d1, d2, d3] }
  | _ => none }
def ctypeSameRow : OpenClaim := { program := "ythbialahladjiaadoor", sum := "f5fd98e3de2f03ab762680b60cd36998b56018afe0b700c5ce7068f5c736ccf1", func := "crosstree/crosstreelaw04.CtypeSame", spec := "ctypeSame", unfollowed := true, recurses := true, named := ["crosstree/ctype.kinds"], loops := true, plainKeys := false, apart := false, laid := [("crosstree/ctype.kinds", laid_crosstree_ctype_kinds)] }
def CtypeSameSaid : Prop := ctypeSameRow.holds Tryd.pinned (OpenSpec.ofChange ctypeSameSpec)

/-- ITS FALSE NEIGHBOUR: 'it returns false'. Refute it at one input. -/
def ctypeSameWrong : ChangeSpec := { name := "ctypeSame", fn := fun _ => fun
  | [d1, d2, d3] => { results := [.lit (.bool false)], args := [d1, d2, d3] }
  | _ => none }
def CtypeSameWrongFalsely : Prop := ctypeSameRow.holds Tryd.pinned (OpenSpec.ofChange ctypeSameWrong)

/-- 'crosstreelaw04.CtypeDecays': WHATEVER THE INPUT: true; the input reads as it did. -/
def ctypeDecaysSpec : ChangeSpec := { name := "ctypeDecays", fn := fun _ => fun
  | [d] => { results := [.lit (.bool true)], args := [d] }
  | _ => none }
def ctypeDecaysRow : OpenClaim := { program := "ythbialahladjiaadoor", sum := "f5fd98e3de2f03ab762680b60cd36998b56018afe0b700c5ce7068f5c736ccf1", func := "crosstree/crosstreelaw04.CtypeDecays", spec := "ctypeDecays", unfollowed := true, recurses := true, named := ["crosstree/ctype.kinds"], loops := true, plainKeys := false, apart := false, laid := [("crosstree/ctype.kinds", laid_crosstree_ctype_kinds)] }
def CtypeDecaysSaid : Prop := ctypeDecaysRow.holds Tryd.pinned (OpenSpec.ofChange ctypeDecaysSpec)

/-- ITS FALSE NEIGHBOUR: 'it returns false'. Refute it at one input. -/
def ctypeDecaysWrong : ChangeSpec := { name := "ctypeDecays", fn := fun _ => fun
  | [d] => { results := [.lit (.bool false)], args := [d] }
  | _ => none }
def CtypeDecaysWrongFalsely : Prop := ctypeDecaysRow.holds Tryd.pinned (OpenSpec.ofChange ctypeDecaysWrong)

/-- 'crosstreelaw04.CtypeWidths': WHATEVER THE INPUT: true; the input reads as it did. -/
def ctypeWidthsSpec : ChangeSpec := { name := "ctypeWidths", fn := fun _ => fun
  | [d1, d2] => { results := [.lit (.bool true)], args := [d1, d2] }
  | _ => none }
def ctypeWidthsRow : OpenClaim := { program := "ythbialahladjiaadoor", sum := "f5fd98e3de2f03ab762680b60cd36998b56018afe0b700c5ce7068f5c736ccf1", func := "crosstree/crosstreelaw04.CtypeWidths", spec := "ctypeWidths", unfollowed := true, recurses := true, named := ["crosstree/ctype.kinds"], loops := true, plainKeys := false, apart := false, laid := [("crosstree/ctype.kinds", laid_crosstree_ctype_kinds)] }
def CtypeWidthsSaid : Prop := ctypeWidthsRow.holds Tryd.pinned (OpenSpec.ofChange ctypeWidthsSpec)

/-- ITS FALSE NEIGHBOUR: 'it returns false'. Refute it at one input. -/
def ctypeWidthsWrong : ChangeSpec := { name := "ctypeWidths", fn := fun _ => fun
  | [d1, d2] => { results := [.lit (.bool false)], args := [d1, d2] }
  | _ => none }
def CtypeWidthsWrongFalsely : Prop := ctypeWidthsRow.holds Tryd.pinned (OpenSpec.ofChange ctypeWidthsWrong)

/-- 'crosstreelaw04.CtypeVoids': WHATEVER THE INPUT: true; the input reads as it did. -/
def ctypeVoidsSpec : ChangeSpec := { name := "ctypeVoids", fn := fun _ => fun
  | [d1, d2] => { results := [.lit (.bool true)], args := [d1, d2] }
  | _ => none }
def ctypeVoidsRow : OpenClaim := { program := "ythbialahladjiaadoor", sum := "f5fd98e3de2f03ab762680b60cd36998b56018afe0b700c5ce7068f5c736ccf1", func := "crosstree/crosstreelaw04.CtypeVoids", spec := "ctypeVoids", unfollowed := true, recurses := true, named := ["crosstree/ctype.kinds"], loops := true, plainKeys := false, apart := false, laid := [("crosstree/ctype.kinds", laid_crosstree_ctype_kinds)] }
def CtypeVoidsSaid : Prop := ctypeVoidsRow.holds Tryd.pinned (OpenSpec.ofChange ctypeVoidsSpec)

/-- ITS FALSE NEIGHBOUR: 'it returns false'. Refute it at one input. -/
def ctypeVoidsWrong : ChangeSpec := { name := "ctypeVoids", fn := fun _ => fun
  | [d1, d2] => { results := [.lit (.bool false)], args := [d1, d2] }
  | _ => none }
def CtypeVoidsWrongFalsely : Prop := ctypeVoidsRow.holds Tryd.pinned (OpenSpec.ofChange ctypeVoidsWrong)

/-- 'crosstreelaw04.CtypeParts': WHATEVER THE INPUT: true; the input reads as it did. -/
def ctypePartsSpec : ChangeSpec := { name := "ctypeParts", fn := fun _ => fun
  | [d1, d2] => { results := [.lit (.bool true)], args := [d1, d2] }
  | _ => none }
def ctypePartsRow : OpenClaim := { program := "ythbialahladjiaadoor", sum := "f5fd98e3de2f03ab762680b60cd36998b56018afe0b700c5ce7068f5c736ccf1", func := "crosstree/crosstreelaw04.CtypeParts", spec := "ctypeParts", unfollowed := true, recurses := true, named := ["crosstree/ctype.kinds"], loops := true, plainKeys := false, apart := false, laid := [("crosstree/ctype.kinds", laid_crosstree_ctype_kinds)] }
def CtypePartsSaid : Prop := ctypePartsRow.holds Tryd.pinned (OpenSpec.ofChange ctypePartsSpec)

/-- ITS FALSE NEIGHBOUR: 'it returns false'. Refute it at one input. -/
def ctypePartsWrong : ChangeSpec := { name := "ctypeParts", fn := fun _ => fun
  | [d1, d2] => { results := [.lit (.bool false)], args := [d1, d2] }
  | _ => none }
def CtypePartsWrongFalsely : Prop := ctypePartsRow.holds Tryd.pinned (OpenSpec.ofChange ctypePartsWrong)

/- THE SECOND FORM. 'bulk': how many values and letters a reading holds, each counted each time it is reached (what is shared counts as often as it is met; a slice's spare places count too). A statement '..UptoSaid' is the law's where the arguments, and the package variables that the reading takes, are together of bulk at most 1048576: NARROWER than '..Said'. Prove '..Said' where nothing that the law and all that it calls make is longer than what came in: it says more and counts as full. Else prove '..UptoSaid'. A law counts once. -/
mutual
def uptoBulk {H : Type} : DataW H → Nat
  | .lit (.string bytes) => bytes.length + 1
  | .lit _ => 1
  | .nil => 1
  | .ptr d => uptoBulk d + 1
  | .slice elems spare => uptoBulkAll elems + uptoBulkAll spare + 1
  | .agg parts => uptoBulkAll parts + 1
  | .iface _ d => uptoBulk d + 1
  | .map entries => uptoBulkEntries entries + 1
  | .held _ => 1
def uptoBulkAll {H : Type} : List (DataW H) → Nat
  | [] => 0
  | d :: r => uptoBulk d + uptoBulkAll r
def uptoBulkEntries {H : Type} : List (Lit × DataW H) → Nat
  | [] => 0
  | x :: r => uptoBulkEntry x + uptoBulkEntries r
def uptoBulkEntry {H : Type} : Lit × DataW H → Nat
  | (.string bytes, d) => bytes.length + uptoBulk d + 1
  | (_, d) => uptoBulk d + 1
 end
def uptoSmall : (H : Type) → List (DataW H) → Bool := fun _ ds => decide (uptoBulkAll ds ≤ 1048576)
def OpenSpec.upto (s : _root_.Go.ChangeSpec) : _root_.Go.OpenSpec := { _root_.Go.OpenSpec.ofChange s with cond := some uptoSmall }

/-- 'crosstreelaw04.CtypeMays', WHERE WHAT IT READS IS OF BULK AT MOST 1048576: true; the input reads as it did. -/
def ctypeMaysUptoRow : OpenClaim := { program := "ythbialahladjiaadoor", sum := "f5fd98e3de2f03ab762680b60cd36998b56018afe0b700c5ce7068f5c736ccf1", func := "crosstree/crosstreelaw04.CtypeMays", spec := "ctypeMays", unfollowed := true, recurses := true, named := ["crosstree/ctype.kinds"], loops := true, plainKeys := false, apart := false, laid := [("crosstree/ctype.kinds", laid_crosstree_ctype_kinds)], narrowed := true }
def CtypeMaysUptoSaid : Prop := ctypeMaysUptoRow.holds Tryd.pinned (OpenSpec.upto ctypeMaysSpec)

/-- 'crosstreelaw04.CtypeFits', WHERE WHAT IT READS IS OF BULK AT MOST 1048576: true; the input reads as it did. -/
def ctypeFitsUptoRow : OpenClaim := { program := "ythbialahladjiaadoor", sum := "f5fd98e3de2f03ab762680b60cd36998b56018afe0b700c5ce7068f5c736ccf1", func := "crosstree/crosstreelaw04.CtypeFits", spec := "ctypeFits", unfollowed := true, recurses := true, named := ["crosstree/ctype.kinds"], loops := true, plainKeys := false, apart := false, laid := [("crosstree/ctype.kinds", laid_crosstree_ctype_kinds)], narrowed := true }
def CtypeFitsUptoSaid : Prop := ctypeFitsUptoRow.holds Tryd.pinned (OpenSpec.upto ctypeFitsSpec)

/-- 'crosstreelaw04.CtypeSame', WHERE WHAT IT READS IS OF BULK AT MOST 1048576: true; the input reads as it did. -/
def ctypeSameUptoRow : OpenClaim := { program := "ythbialahladjiaadoor", sum := "f5fd98e3de2f03ab762680b60cd36998b56018afe0b700c5ce7068f5c736ccf1", func := "crosstree/crosstreelaw04.CtypeSame", spec := "ctypeSame", unfollowed := true, recurses := true, named := ["crosstree/ctype.kinds"], loops := true, plainKeys := false, apart := false, laid := [("crosstree/ctype.kinds", laid_crosstree_ctype_kinds)], narrowed := true }
def CtypeSameUptoSaid : Prop := ctypeSameUptoRow.holds Tryd.pinned (OpenSpec.upto ctypeSameSpec)

/-- 'crosstreelaw04.CtypeDecays', WHERE WHAT IT READS IS OF BULK AT MOST 1048576: true; the input reads as it did. -/
def ctypeDecaysUptoRow : OpenClaim := { program := "ythbialahladjiaadoor", sum := "f5fd98e3de2f03ab762680b60cd36998b56018afe0b700c5ce7068f5c736ccf1", func := "crosstree/crosstreelaw04.CtypeDecays", spec := "ctypeDecays", unfollowed := true, recurses := true, named := ["crosstree/ctype.kinds"], loops := true, plainKeys := false, apart := false, laid := [("crosstree/ctype.kinds", laid_crosstree_ctype_kinds)], narrowed := true }
def CtypeDecaysUptoSaid : Prop := ctypeDecaysUptoRow.holds Tryd.pinned (OpenSpec.upto ctypeDecaysSpec)

/-- 'crosstreelaw04.CtypeWidths', WHERE WHAT IT READS IS OF BULK AT MOST 1048576: true; the input reads as it did. -/
def ctypeWidthsUptoRow : OpenClaim := { program := "ythbialahladjiaadoor", sum := "f5fd98e3de2f03ab762680b60cd36998b56018afe0b700c5ce7068f5c736ccf1", func := "crosstree/crosstreelaw04.CtypeWidths", spec := "ctypeWidths", unfollowed := true, recurses := true, named := ["crosstree/ctype.kinds"], loops := true, plainKeys := false, apart := false, laid := [("crosstree/ctype.kinds", laid_crosstree_ctype_kinds)], narrowed := true }
def CtypeWidthsUptoSaid : Prop := ctypeWidthsUptoRow.holds Tryd.pinned (OpenSpec.upto ctypeWidthsSpec)

/-- 'crosstreelaw04.CtypeVoids', WHERE WHAT IT READS IS OF BULK AT MOST 1048576: true; the input reads as it did. -/
def ctypeVoidsUptoRow : OpenClaim := { program := "ythbialahladjiaadoor", sum := "f5fd98e3de2f03ab762680b60cd36998b56018afe0b700c5ce7068f5c736ccf1", func := "crosstree/crosstreelaw04.CtypeVoids", spec := "ctypeVoids", unfollowed := true, recurses := true, named := ["crosstree/ctype.kinds"], loops := true, plainKeys := false, apart := false, laid := [("crosstree/ctype.kinds", laid_crosstree_ctype_kinds)], narrowed := true }
def CtypeVoidsUptoSaid : Prop := ctypeVoidsUptoRow.holds Tryd.pinned (OpenSpec.upto ctypeVoidsSpec)

/-- 'crosstreelaw04.CtypeParts', WHERE WHAT IT READS IS OF BULK AT MOST 1048576: true; the input reads as it did. -/
def ctypePartsUptoRow : OpenClaim := { program := "ythbialahladjiaadoor", sum := "f5fd98e3de2f03ab762680b60cd36998b56018afe0b700c5ce7068f5c736ccf1", func := "crosstree/crosstreelaw04.CtypeParts", spec := "ctypeParts", unfollowed := true, recurses := true, named := ["crosstree/ctype.kinds"], loops := true, plainKeys := false, apart := false, laid := [("crosstree/ctype.kinds", laid_crosstree_ctype_kinds)], narrowed := true }
def CtypePartsUptoSaid : Prop := ctypePartsUptoRow.holds Tryd.pinned (OpenSpec.upto ctypePartsSpec)

end Rows
end Go.Proofs.YthbialahladjiaaDoor
