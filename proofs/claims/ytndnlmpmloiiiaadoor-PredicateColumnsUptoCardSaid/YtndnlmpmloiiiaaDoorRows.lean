/-
  NARROWER THAN 'FOR EVERY INPUT', by the rows' own cells (each row's printed sentence says how): PredicateChecks: loops, laid · PredicateHolds: loops, laid · PredicateBinds: loops, laid · PredicateColumns: loops, laid · PredicateEquals: loops, laid.
  DERIVED. THE GIVEN ROWS OF THIS SEAT. 5 by the template 'for every input the law returns true; each argument reads behind the call as it read before'; 0 by the template 'total and deterministic' (their statements: YtndnlmpmloiiiaaDoorTotals.lean).
  GIVEN WITH THE SEED: the statements are not yours to turn. If you find one false, say at which input.
  Laid BY PROGRAM, IN A SANDBOX (cutbox-rows.mjs): the forced cells as the released guide's own fill.sh prints them over the translation 22fbc9985f966bd4… (all of the seat's roots in one cut). By AI agents, Wed Nov 11 2026. No macro, syntax, notation, axiom, sorry.
-/
import Derived.Test.YtndnlmpmloiiiaaDoorChecked
import GoSem.Claim
import GoSem.ClaimJoined
import GoSem.ClaimMapViews
import Derived.JoinedTies
import Derived.KernelRfl
namespace Go.Proofs.YtndnlmpmloiiiaaDoor
/- THE CELL 'sum', in the pinned program and in every row, IS THE sha256 OF THE DUMP (.gsa) THAT YtndnlmpmloiiiaaDoorProg.lean LOADS. Nothing in Lean hashes anything: it is a label: what it is worth is what the hold of that sum in a sandbox is worth. -/
noncomputable def Tryd.pinned : Pinned := { name := "ytndnlmpmloiiiaadoor", sum := "22fbc9985f966bd453a4f9aec36ee252c522e03ebf1b822fa58ab997343bacab", checked := Tryd.checked }
namespace Rows
def none {H : Type} : Left H := { results := [], args := [] }

/- WHAT THE LISTED PACKAGE-LEVEL VARIABLES READ AS WHEN THE CALL BEGINS. Each datum BY PROGRAM (the guide's laid-datum.mjs) off the statement by which the dump's own 'gosem.cut.vars' lays the variable. In a bare row this is a premise. The card (YtndnlmpmloiiiaaDoorCards.lean) ties it to the program's text. -/
def laid_partsync_predicate_shapes {H : Type} : DataW H := .agg [.agg [.lit (.bool false), .lit (.int .i64 0), .lit (.int .i64 0)], .agg [.lit (.bool false), .lit (.int .i64 0), .lit (.int .i64 0)], .agg [.lit (.bool false), .lit (.int .i64 0), .lit (.int .i64 0)], .agg [.lit (.bool true), .lit (.int .i64 0), .lit (.int .i64 0)], .agg [.lit (.bool false), .lit (.int .i64 0), .lit (.int .i64 24)], .agg [.lit (.bool false), .lit (.int .i64 0), .lit (.int .i64 24)], .agg [.lit (.bool false), .lit (.int .i64 1), .lit (.int .i64 1)]]

/-- 'partsynclaw05.PredicateChecks': WHATEVER THE INPUT: true; the input reads as it did. -/
def predicateChecksSpec : ChangeSpec := { name := "predicateChecks", fn := fun _ => fun
  | [d1, d2, d3] => { results := [.lit (.bool true)], args := [d1, d2, d3] }
  | _ => none }
def predicateChecksRow : OpenClaim := { program := "ytndnlmpmloiiiaadoor", sum := "22fbc9985f966bd453a4f9aec36ee252c522e03ebf1b822fa58ab997343bacab", func := "partsync/partsynclaw05.PredicateChecks", spec := "predicateChecks", unfollowed := true, recurses := true, named := ["partsync/predicate.shapes"], loops := true, apart := false, laid := [("partsync/predicate.shapes", laid_partsync_predicate_shapes)] }
def PredicateChecksSaid : Prop := predicateChecksRow.holds Tryd.pinned (OpenSpec.ofChange predicateChecksSpec)

/-- ITS FALSE NEIGHBOUR: 'it returns false'. Refute it at one input. -/
def predicateChecksWrong : ChangeSpec := { name := "predicateChecks", fn := fun _ => fun
  | [d1, d2, d3] => { results := [.lit (.bool false)], args := [d1, d2, d3] }
  | _ => none }
def PredicateChecksWrongFalsely : Prop := predicateChecksRow.holds Tryd.pinned (OpenSpec.ofChange predicateChecksWrong)

/-- 'partsynclaw05.PredicateHolds': WHATEVER THE INPUT: true; the input reads as it did. -/
def predicateHoldsSpec : ChangeSpec := { name := "predicateHolds", fn := fun _ => fun
  | [d1, d2, d3, d4] => { results := [.lit (.bool true)], args := [d1, d2, d3, d4] }
  | _ => none }
def predicateHoldsRow : OpenClaim := { program := "ytndnlmpmloiiiaadoor", sum := "22fbc9985f966bd453a4f9aec36ee252c522e03ebf1b822fa58ab997343bacab", func := "partsync/partsynclaw05.PredicateHolds", spec := "predicateHolds", unfollowed := true, recurses := true, named := ["partsync/predicate.shapes"], loops := true, apart := false, laid := [("partsync/predicate.shapes", laid_partsync_predicate_shapes)] }
def PredicateHoldsSaid : Prop := predicateHoldsRow.holds Tryd.pinned (OpenSpec.ofChange predicateHoldsSpec)

/-- ITS FALSE NEIGHBOUR: 'it returns false'. Refute it at one input. -/
def predicateHoldsWrong : ChangeSpec := { name := "predicateHolds", fn := fun _ => fun
  | [d1, d2, d3, d4] => { results := [.lit (.bool false)], args := [d1, d2, d3, d4] }
  | _ => none }
def PredicateHoldsWrongFalsely : Prop := predicateHoldsRow.holds Tryd.pinned (OpenSpec.ofChange predicateHoldsWrong)

/-- 'partsynclaw05.PredicateBinds': WHATEVER THE INPUT: true; the input reads as it did. -/
def predicateBindsSpec : ChangeSpec := { name := "predicateBinds", fn := fun _ => fun
  | [d1, d2, d3, d4] => { results := [.lit (.bool true)], args := [d1, d2, d3, d4] }
  | _ => none }
def predicateBindsRow : OpenClaim := { program := "ytndnlmpmloiiiaadoor", sum := "22fbc9985f966bd453a4f9aec36ee252c522e03ebf1b822fa58ab997343bacab", func := "partsync/partsynclaw05.PredicateBinds", spec := "predicateBinds", unfollowed := true, recurses := true, named := ["partsync/predicate.shapes"], loops := true, apart := false, laid := [("partsync/predicate.shapes", laid_partsync_predicate_shapes)] }
def PredicateBindsSaid : Prop := predicateBindsRow.holds Tryd.pinned (OpenSpec.ofChange predicateBindsSpec)

/-- ITS FALSE NEIGHBOUR: 'it returns false'. Refute it at one input. -/
def predicateBindsWrong : ChangeSpec := { name := "predicateBinds", fn := fun _ => fun
  | [d1, d2, d3, d4] => { results := [.lit (.bool false)], args := [d1, d2, d3, d4] }
  | _ => none }
def PredicateBindsWrongFalsely : Prop := predicateBindsRow.holds Tryd.pinned (OpenSpec.ofChange predicateBindsWrong)

/-- 'partsynclaw05.PredicateColumns': WHATEVER THE INPUT: true; the input reads as it did. -/
def predicateColumnsSpec : ChangeSpec := { name := "predicateColumns", fn := fun _ => fun
  | [d1, d2] => { results := [.lit (.bool true)], args := [d1, d2] }
  | _ => none }
def predicateColumnsRow : OpenClaim := { program := "ytndnlmpmloiiiaadoor", sum := "22fbc9985f966bd453a4f9aec36ee252c522e03ebf1b822fa58ab997343bacab", func := "partsync/partsynclaw05.PredicateColumns", spec := "predicateColumns", unfollowed := true, recurses := true, named := ["partsync/predicate.shapes"], loops := true, apart := false, laid := [("partsync/predicate.shapes", laid_partsync_predicate_shapes)] }
def PredicateColumnsSaid : Prop := predicateColumnsRow.holds Tryd.pinned (OpenSpec.ofChange predicateColumnsSpec)

/-- ITS FALSE NEIGHBOUR: 'it returns false'. Refute it at one input. -/
def predicateColumnsWrong : ChangeSpec := { name := "predicateColumns", fn := fun _ => fun
  | [d1, d2] => { results := [.lit (.bool false)], args := [d1, d2] }
  | _ => none }
def PredicateColumnsWrongFalsely : Prop := predicateColumnsRow.holds Tryd.pinned (OpenSpec.ofChange predicateColumnsWrong)

/-- 'partsynclaw05.PredicateEquals': WHATEVER THE INPUT: true; the input reads as it did. -/
def predicateEqualsSpec : ChangeSpec := { name := "predicateEquals", fn := fun _ => fun
  | [d1, d2] => { results := [.lit (.bool true)], args := [d1, d2] }
  | _ => none }
def predicateEqualsRow : OpenClaim := { program := "ytndnlmpmloiiiaadoor", sum := "22fbc9985f966bd453a4f9aec36ee252c522e03ebf1b822fa58ab997343bacab", func := "partsync/partsynclaw05.PredicateEquals", spec := "predicateEquals", unfollowed := true, recurses := true, named := ["partsync/predicate.shapes"], loops := true, apart := false, laid := [("partsync/predicate.shapes", laid_partsync_predicate_shapes)] }
def PredicateEqualsSaid : Prop := predicateEqualsRow.holds Tryd.pinned (OpenSpec.ofChange predicateEqualsSpec)

/-- ITS FALSE NEIGHBOUR: 'it returns false'. Refute it at one input. -/
def predicateEqualsWrong : ChangeSpec := { name := "predicateEquals", fn := fun _ => fun
  | [d1, d2] => { results := [.lit (.bool false)], args := [d1, d2] }
  | _ => none }
def PredicateEqualsWrongFalsely : Prop := predicateEqualsRow.holds Tryd.pinned (OpenSpec.ofChange predicateEqualsWrong)

/- THE SECOND FORM. 'bulk': how many values and letters a reading holds, each counted each time it is reached (what is shared counts as often as it is met; a slice's spare places count too). A statement '..UptoSaid' is the law's where the arguments, and the package variables that the reading takes, are together of bulk at most 1048576: NARROWER than '..Said'. Prove '..Said' where nothing that the law and all that it calls make is longer than what came in: it says more and counts as full. Else prove '..UptoSaid'. A law counts once. -/
mutual
def uptoBulk {H : Type} : DataW H → Nat
  | .lit (.string bytes) => bytes.length + 1
  | .lit _ => 1
  | .nil => 1
  | .ptr d => uptoBulk d + 1
  | .slice elems spare => uptoBulkAll elems + uptoBulkAll spare + 1
  | .agg parts => uptoBulkAll parts + 1
  | .iface _ d => uptoBulk d + 1
  | .map entries => uptoBulkEntries entries + 1
  | .held _ => 1
def uptoBulkAll {H : Type} : List (DataW H) → Nat
  | [] => 0
  | d :: r => uptoBulk d + uptoBulkAll r
def uptoBulkEntries {H : Type} : List (Lit × DataW H) → Nat
  | [] => 0
  | x :: r => uptoBulkEntry x + uptoBulkEntries r
def uptoBulkEntry {H : Type} : Lit × DataW H → Nat
  | (.string bytes, d) => bytes.length + uptoBulk d + 1
  | (_, d) => uptoBulk d + 1
 end
def uptoSmall : (H : Type) → List (DataW H) → Bool := fun _ ds => decide (uptoBulkAll ds ≤ 1048576)
def OpenSpec.upto (s : _root_.Go.ChangeSpec) : _root_.Go.OpenSpec := { _root_.Go.OpenSpec.ofChange s with cond := some uptoSmall }

/-- 'partsynclaw05.PredicateChecks', WHERE WHAT IT READS IS OF BULK AT MOST 1048576: true; the input reads as it did. -/
def predicateChecksUptoRow : OpenClaim := { program := "ytndnlmpmloiiiaadoor", sum := "22fbc9985f966bd453a4f9aec36ee252c522e03ebf1b822fa58ab997343bacab", func := "partsync/partsynclaw05.PredicateChecks", spec := "predicateChecks", unfollowed := true, recurses := true, named := ["partsync/predicate.shapes"], loops := true, apart := false, laid := [("partsync/predicate.shapes", laid_partsync_predicate_shapes)], narrowed := true }
def PredicateChecksUptoSaid : Prop := predicateChecksUptoRow.holds Tryd.pinned (OpenSpec.upto predicateChecksSpec)

/-- 'partsynclaw05.PredicateHolds', WHERE WHAT IT READS IS OF BULK AT MOST 1048576: true; the input reads as it did. -/
def predicateHoldsUptoRow : OpenClaim := { program := "ytndnlmpmloiiiaadoor", sum := "22fbc9985f966bd453a4f9aec36ee252c522e03ebf1b822fa58ab997343bacab", func := "partsync/partsynclaw05.PredicateHolds", spec := "predicateHolds", unfollowed := true, recurses := true, named := ["partsync/predicate.shapes"], loops := true, apart := false, laid := [("partsync/predicate.shapes", laid_partsync_predicate_shapes)], narrowed := true }
def PredicateHoldsUptoSaid : Prop := predicateHoldsUptoRow.holds Tryd.pinned (OpenSpec.upto predicateHoldsSpec)

/-- 'partsynclaw05.PredicateBinds', WHERE WHAT IT READS IS OF BULK AT MOST 1048576: true; the input reads as it did. -/
def predicateBindsUptoRow : OpenClaim := { program := "ytndnlmpmloiiiaadoor", sum := "22fbc9985f966bd453a4f9aec36ee252c522e03ebf1b822fa58ab997343bacab", func := "partsync/partsynclaw05.PredicateBinds", spec := "predicateBinds", unfollowed := true, recurses := true, named := ["partsync/predicate.shapes"], loops := true, apart := false, laid := [("partsync/predicate.shapes", laid_partsync_predicate_shapes)], narrowed := true }
def PredicateBindsUptoSaid : Prop := predicateBindsUptoRow.holds Tryd.pinned (OpenSpec.upto predicateBindsSpec)

/-- 'partsynclaw05.PredicateColumns', WHERE WHAT IT READS IS OF BULK AT MOST 1048576: true; the input reads as it did. -/
def predicateColumnsUptoRow : OpenClaim := { program := "ytndnlmpmloiiiaadoor", sum := "22fbc9985f966bd453a4f9aec36ee252c522e03ebf1b822fa58ab997343bacab", func := "partsync/partsynclaw05.PredicateColumns", spec := "predicateColumns", unfollowed := true, recurses := true, named := ["partsync/predicate.shapes"], loops := true, apart := false, laid := [("partsync/predicate.shapes", laid_partsync_predicate_shapes)], narrowed := true }
def PredicateColumnsUptoSaid : Prop := predicateColumnsUptoRow.holds Tryd.pinned (OpenSpec.upto predicateColumnsSpec)

/-- 'partsynclaw05.PredicateEquals', WHERE WHAT IT READS IS OF BULK AT MOST 1048576: true; the input reads as it did. -/
def predicateEqualsUptoRow : OpenClaim := { program := "ytndnlmpmloiiiaadoor", sum := "22fbc9985f966bd453a4f9aec36ee252c522e03ebf1b822fa58ab997343bacab", func := "partsync/partsynclaw05.PredicateEquals", spec := "predicateEquals", unfollowed := true, recurses := true, named := ["partsync/predicate.shapes"], loops := true, apart := false, laid := [("partsync/predicate.shapes", laid_partsync_predicate_shapes)], narrowed := true }
def PredicateEqualsUptoSaid : Prop := predicateEqualsUptoRow.holds Tryd.pinned (OpenSpec.upto predicateEqualsSpec)

end Rows
end Go.Proofs.YtndnlmpmloiiiaaDoor
